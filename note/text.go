package note

import (
	"slices"
	"strconv"
	"strings"

	"scrivener/api"
	"scrivener/digest"
)

const (
	lineEnd       = '\n'
	signatureMark = "- "
)

// bodyOf is the body of a note whose body may be.
func bodyOf(n api.Note) string {
	return lines(n.Origin, strconv.Itoa(n.Head.Size), digest.Base64(n.Head.Root))
}

// signedText is what a signer signs: with the name, so that no signature can be told as another one's.
func signedText(n api.Note, name string) string { return bodyOf(n) + lines(name) }

// textOf is the text of a note that may be.
func textOf(n api.Note) string {
	text := []string{bodyOf(n), lines("")}
	for _, s := range n.Signatures {
		text = append(text, lines(signatureMark+s.Name+" "+digest.Base64(s.Data)))
	}
	return strings.Join(text, "")
}

// lines are some lines, each with its end.
func lines(l ...string) string {
	var b strings.Builder
	for _, line := range l {
		b.WriteString(line)
		b.WriteByte(lineEnd)
	}
	return b.String()
}

// place is where the signature of a name stands among others, or belongs, and whether it is there.
func place(l []api.Signature, name string) (int, bool) {
	return slices.BinarySearchFunc(l, name, func(s api.Signature, name string) int { return strings.Compare(s.Name, name) })
}

// put is a new list with a signature at its place, also in that of one of its name.
func put(l []api.Signature, s api.Signature) []api.Signature {
	at, ok := place(l, s.Name)
	rest := l[at:]
	if ok {
		rest = l[at+1:]
	}
	return slices.Concat(l[:at], []api.Signature{s}, rest)
}
