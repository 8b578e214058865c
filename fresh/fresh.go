// Package fresh copies what was handed in, so that an answer shares no memory with it.
package fresh

import (
	"strings"

	"moraine/api"
)

// Val is a value in memory of its own: its text, its list, and what stands in that.
func Val(v api.Val) api.Val {
	f := api.Val{Kind: v.Kind, N: v.N, S: strings.Clone(v.S)}
	for _, item := range v.L {
		f.L = append(f.L, Val(item))
	}
	return f
}
