package parser

import (
	"slices"

	"simproof/api"
)

// Equal reports whether two syntax trees are equal.
func Equal(a, b api.Node) bool {
	return a.Kind == b.Kind && a.N == b.N && a.S == b.S && slices.EqualFunc(a.Kids, b.Kids, Equal)
}

// Same reports whether two programs are equal.
func Same(a, b api.Unit) bool {
	return slices.Equal(a.Durable, b.Durable) && slices.Equal(a.Volatile, b.Volatile) && slices.EqualFunc(a.On, b.On, sameHandler)
}

// sameHandler reports whether two handlers are equal.
func sameHandler(a, b api.Handler) bool {
	return a.Number == b.Number && Equal(a.Body, b.Body)
}
