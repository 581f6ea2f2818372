package value

import (
	"slices"

	"introit/api"
)

// Same reports whether two values are equal in all parts.
func Same(a, b api.Value) bool {
	return a.Kind == b.Kind && a.N == b.N && a.S == b.S &&
		slices.EqualFunc(a.L, b.L, Same) && slices.EqualFunc(a.M, b.M, sameMember)
}

func sameMember(a, b api.Member) bool { return a.Key == b.Key && Same(a.V, b.V) }
