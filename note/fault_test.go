package note

import (
	"errors"
	"testing"

	"scrivener/api"
)

// What is wrong is found however deep it is wrapped; what nobody knows is no note.
func TestFaults(t *testing.T) {
	for _, c := range []struct {
		wrong error
		e     api.Errno
		text  string
	}{
		{errForm, api.ErrNoteForm, "a: not of the form that it must have"},
		{errField, api.ErrNoteField, "a: a field that may not be"},
		{errNone, api.ErrNoteNone, "a: not signed"},
		{errBad, api.ErrNoteBad, "a: a signature that is not right"},
		{errMany, api.ErrNoteMany, "a: more signatures than there may be"},
		{errors.New("other"), api.ErrNoteForm, "a: other"},
	} {
		one := fault{"a", c.wrong}
		two := fault{"b", one}
		if errnoOf(c.wrong) != c.e || errnoOf(one) != c.e || errnoOf(two) != c.e {
			t.Errorf("Ways: %v: %d, %d, %d, want %d", c.wrong, errnoOf(c.wrong), errnoOf(one), errnoOf(two), c.e)
		}
		if one.Error() != c.text || two.Error() != "b: "+c.text || !errors.Is(two, c.wrong) {
			t.Errorf("Ways: %q, %q", one.Error(), two.Error())
		}
	}
	if e := errnoOf(nil); e != api.OK {
		t.Errorf("Ways: nothing is wrong: %d", e)
	}
}

// Each fault tells where it is.
func TestFaultsTellWhere(t *testing.T) {
	head := api.Head{Size: 5, Root: "rootrootrootrootrootrootrootroot"}
	signed := func(names ...string) api.Note {
		n := api.Note{Origin: "log", Head: head}
		for _, name := range names {
			n.Signatures = append(n.Signatures, api.Signature{Name: name, Data: "d"})
		}
		return n
	}
	sixteen := signed("a", "b", "c", "d", "e", "f", "g", "h", "i", "j", "k", "l", "m", "n", "o", "p")
	var none, empty, missing reader
	for _, c := range []struct {
		err  error
		text string
	}{
		{mayNote(api.Note{}), "the origin: a field that may not be"},
		{mayNote(api.Note{Origin: "log", Head: api.Head{Size: -1}}), "the size: a field that may not be"},
		{mayNote(api.Note{Origin: "log"}), "the root: a field that may not be"},
		{mayNote(signed("a", "b", "b")), "signature 3: a field that may not be"},
		{mayNote(api.Note{Origin: "log", Head: head, Signatures: make([]api.Signature, 17)}), "17 signatures: more signatures than there may be"},
		{maySign(signed(), "A"), "the signer's name: a field that may not be"},
		{maySign(sixteen, "q"), "a further signer: more signatures than there may be"},
		{mayMerge(api.Note{}, signed()), "the first note: the origin: a field that may not be"},
		{mayMerge(signed(), signed("b", "a")), "the second note: signature 2: a field that may not be"},
		{mayMerge(signed(), api.Note{Origin: "other", Head: head}), "the second note's body: not of the form that it must have"},
		{mustHaveSigned(signed("a"), api.Known{Name: "b"}), "the note: not signed"},
		{mustHaveSigned(signed("a", "b"), api.Known{Name: "b"}), "signature 2: a signature that is not right"},
		{none.read(""), "line 1: not of the form that it must have"},
		{empty.read("log\n5"), "line 2: not of the form that it must have"},
		{missing.read("log\n5\nx\n"), "line 3: not of the form that it must have"},
	} {
		if c.err == nil || c.err.Error() != c.text {
			t.Errorf("Ways: %v, want %s", c.err, c.text)
		}
	}
}
