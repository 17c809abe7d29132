package witness

import (
	"slices"
	"strings"

	"scrivener/api"
	"scrivener/digest"
	"scrivener/note"
	"scrivener/verify"
)

const nameSigns = "abcdefghijklmnopqrstuvwxyz0123456789.-/"

// logs are those that a witness knows, by rising origins, no two the same.
type logs []entry

// entry is what a witness knows of a log.
type entry struct {
	known api.Known // its origin, its key
	last  api.Head  // that was signed
}

// entryOf is one made of copies, since pieces of longer texts would keep all of those.
func entryOf(known api.Known, last api.Head) entry {
	return entry{
		api.Known{Name: strings.Clone(known.Name), Key: strings.Clone(known.Key)},
		api.Head{Size: last.Size, Root: strings.Clone(last.Root)},
	}
}

// unsigned is the last head of a log of which none was signed.
func unsigned() api.Head { return api.Head{Root: digest.Empty()} }

// place is where the log of an origin stands, or belongs, and whether it is there.
func (l logs) place(origin string) (int, bool) {
	return slices.BinarySearchFunc(l, origin, func(x entry, origin string) int { return strings.Compare(x.known.Name, origin) })
}

func (l logs) origins() []string {
	var names []string
	for _, x := range l {
		names = append(names, x.known.Name)
	}
	return names
}

// mayFollow tells why a note of the log must not be signed behind the last head, if so.
func (x *entry) mayFollow(n api.Note, proof []string) api.Errno {
	switch {
	case note.Check(n, x.known) != api.OK:
		return api.ErrWitnessNote
	case n.Head.Size < x.last.Size:
		return api.ErrWitnessOld
	case n.Head.Size == x.last.Size && n.Head.Root != x.last.Root:
		return api.ErrWitnessFork
	case !leads(x.last, n.Head, proof):
		return api.ErrWitnessProof
	}
	return api.OK
}

// leads tells whether a proof is the one from a head to another one. To the same one, and from the empty log, there is nothing to prove, and nothing may be told.
func leads(from, to api.Head, proof []string) bool {
	if from.Size == 0 || from.Size == to.Size {
		return len(proof) == 0
	}
	return verify.Consistency(from.Size, to.Size, from.Root, to.Root, proof) == api.OK
}

func isName(s string) bool {
	return len(s) > 0 && len(s) <= api.MaxName && strings.Trim(s, nameSigns) == ""
}
