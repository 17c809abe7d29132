package signer

import (
	"scrivener/api"
	"scrivener/digest"
	"scrivener/frontier"
	"scrivener/winternitz"
)

const mostRows = 8 // of leaves, each worked out by a goroutine

// tree is that over the public keys of a signer.
type tree struct {
	leaves []string // 2^height of them
	root   string
}

func treeOf(r record) tree {
	leaves := leavesOf(r.seed, 1<<r.height)
	return tree{leaves, rootOf(leaves)}
}

// path is that of a leaf: on each level, from below, the complete subtree beside the one in which it is.
func (t tree) path(index int) []string {
	var path []string
	for size := 1; size < len(t.leaves); size *= 2 {
		beside := index/size ^ 1
		path = append(path, rootOf(t.leaves[beside*size:(beside+1)*size]))
	}
	return path
}

func rootOf(leaves []string) string {
	// No error can come: they are hashes, and not too many.
	all, _ := frontier.Compact(0, leaves)
	root, _ := frontier.RootOf(all)
	return root
}

// leavesOf are the leaves of the first keys of a seed; how many is a power of two, so that all rows have as many.
func leavesOf(seed string, count int) []string {
	share := max(1, count/mostRows)
	var rows []<-chan string
	for from := 0; from < count; from += share {
		rows = append(rows, rowOf(seed, api.Span{Begin: from, End: from + share}))
	}
	var leaves []string
	for _, row := range rows {
		leaves = takeRow(leaves, row)
	}
	return leaves
}

// rowOf tells the leaves of some keys, in their order, as a goroutine works them out. There is room for all of them, so that it never waits for whoever takes them.
func rowOf(seed string, of api.Span) <-chan string {
	row := make(chan string, of.End-of.Begin)
	go func() {
		defer close(row)
		for index := of.Begin; index < of.End; index++ {
			// No error can come: the seed was a right one, and there are few keys.
			public, _ := winternitz.Public(seed, index)
			row <- digest.Leaf(public)
		}
	}()
	return row
}

// takeRow is the leaves that are there, and behind them all those of a row, whose goroutine has no more to do then.
func takeRow(leaves []string, row <-chan string) []string {
	for leaf := range row {
		leaves = append(leaves, leaf)
	}
	return leaves
}
