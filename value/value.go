// Package value: values: see ../shared/doc/01-value.md.
package value

import (
	"cmp"
	"strconv"
	"strings"

	"belvedere/api"
)

// Of is the Int n.
func Of(n int64) api.Value { return api.Value{Kind: api.Int, N: n} }

// Str is the Text s. One that is too long is made all the same: Check tells it.
func Str(s string) api.Value { return api.Value{Kind: api.Text, S: s} }

// Is is the Bool b.
func Is(b bool) api.Value {
	if b {
		return api.Value{Kind: api.Bool, N: 1}
	}
	return api.Value{Kind: api.Bool}
}

// Check tells whether v is a right value: of a Kind that is one, with nothing beside what that Kind holds.
func Check(v api.Value) bool {
	switch v.Kind {
	case api.Null:
		return v.N == 0 && v.S == ""
	case api.Int:
		return v.S == ""
	case api.Text:
		return v.N == 0 && len(v.S) <= api.MaxText
	case api.Bool:
		return (v.N == 0 || v.N == 1) && v.S == ""
	}
	return false
}

// Compare is -1, 0 or 1. It asks every field, whatever the Kind, so that it is an order of all values, wrong ones too.
func Compare(a, b api.Value) int {
	if c := cmp.Compare(a.Kind, b.Kind); c != 0 {
		return c
	}
	if c := cmp.Compare(a.N, b.N); c != 0 {
		return c
	}
	return cmp.Compare(a.S, b.S)
}

// Show is v as it is written; of a Kind that is none, nothing.
func Show(v api.Value) string {
	switch v.Kind {
	case api.Null:
		return "null"
	case api.Int:
		return strconv.FormatInt(v.N, 10)
	case api.Text:
		return quote(v.S)
	case api.Bool:
		return strconv.FormatBool(v.N != 0)
	}
	return ""
}

func quote(s string) string {
	return "'" + strings.ReplaceAll(s, "'", "''") + "'"
}
