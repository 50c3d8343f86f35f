// Package terms: which schemas, values, conditions and events may be, and when an event meets a condition.
package terms

import (
	"cmp"
	"strings"

	"trommel/api"
)

// SchemaMayBe tells whether an engine can be made of a schema.
func SchemaMayBe(schema []int) bool {
	if len(schema) < 1 || len(schema) > api.MaxAttrs {
		return false
	}
	for _, attrType := range schema {
		if attrType != api.Number && attrType != api.Word {
			return false
		}
	}
	return true
}

func hasAttr(schema []int, attr int) bool {
	return attr >= 0 && attr < len(schema)
}

// OrderMayBe tells whether an order has each attribute once.
func OrderMayBe(schema, order []int) bool {
	if len(order) != len(schema) {
		return false
	}
	var seen [api.MaxAttrs]bool
	for _, attr := range order {
		if !hasAttr(schema, attr) || seen[attr] {
			return false
		}
		seen[attr] = true
	}
	return true
}

// fits tells whether a value is one of the given type of attribute.
func fits(attrType int, v api.Value) bool {
	if attrType == api.Number {
		return v.S == ""
	}
	return v.N == 0 && len(v.S) <= api.MaxWord
}

// Compare is below 0 if x is ahead of y, 0 if x is y, and above 0 if x is behind y.
// It need not know the type: of two values that fit one attribute, the half that is not used is the same.
func Compare(x, y api.Value) int {
	return cmp.Or(cmp.Compare(x.N, y.N), strings.Compare(x.S, y.S))
}
