package message

import "scrivener/api"

const (
	mostHashes   = 1 << 15 // of a reply
	longestAsked = 4096    // bytes of an entry that is to be appended: a longer one than may be is the server's to refuse
)

// carrier takes what stands in the fields of a message across, one behind the other: into bytes, or out of them. A call is handed what stands in a field (nothing that matters, where it is read), and answers what stands in the bytes then. That a field may not be what it is, is told at the end.
type carrier interface {
	// mark is a byte of so much at least and at most; and whether it is.
	mark(n, least, most int) (int, bool)
	size(n int) int
	sizes(l []int, many int) []int
	texts(l []string, least, many, most int) []string
	hashes(l []string) []string
	root(s string) string
	asks(l []api.Request) []api.Request
	parts(l []api.Reply) []api.Reply
}

func isSize(n int) bool { return within(n, 0, api.MaxSize) }

// areSizes tells whether numbers that rise are sizes, one at least and so many at most.
func areSizes(l []int, many int) bool {
	return within(len(l), 1, many) && isSize(l[len(l)-1])
}
