// Package fresh makes copies that share no memory with what they are of: what a layer is handed stays as it was, and what it answers is the caller's own.
package fresh

import (
	"slices"

	"ragpicker/api"
)

// Heap is h with memory of its own.
func Heap(h api.Heap) api.Heap {
	return api.Heap{
		W:     slices.Clone(h.W),
		Pages: slices.Clone(h.Pages),
		Free:  Lists(h.Free),
		Cards: slices.Clone(h.Cards),
	}
}

// Lists is l with memory of its own. The array is a value, which is the caller's no more; but each of its lists would still be.
func Lists(l api.Lists) api.Lists {
	for k, a := range l {
		l[k] = slices.Clone(a)
	}
	return l
}

// Col is c with memory of its own.
func Col(c api.Col) api.Col {
	c.Work = slices.Clone(c.Work)
	return c
}

// Thread is t with memory of its own. Its registers are an array: a value already.
func Thread(t api.Thread) api.Thread {
	t.Cache, t.Do = Lists(t.Cache), slices.Clone(t.Do)
	return t
}
