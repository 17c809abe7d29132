package note

import (
	"strconv"

	"scrivener/api"
	"scrivener/signer"
)

const maxData = 6000 // bytes of a signature

// mayNote tells what of a note may not be, if anything.
func mayNote(n api.Note) error {
	if err := mayBody(n); err != nil {
		return err
	}
	return maySignatures(n.Signatures)
}

// mayBody looks at no signatures.
func mayBody(n api.Note) error {
	switch {
	case !isName(n.Origin):
		return fault{"the origin", errField}
	case n.Head.Size < 0 || n.Head.Size > api.MaxSize:
		return fault{"the size", errField}
	case len(n.Head.Root) != api.HashSize:
		return fault{"the root", errField}
	}
	return nil
}

// maySignatures counts them ahead of looking at any.
func maySignatures(l []api.Signature) error {
	if err := mayCount(l); err != nil {
		return err
	}
	for i, s := range l {
		if !isSignature(s) || i > 0 && l[i-1].Name >= s.Name {
			return fault{"signature " + strconv.Itoa(i+1), errField}
		}
	}
	return nil
}

func mayCount(l []api.Signature) error {
	if len(l) > api.MaxSigned {
		return fault{strconv.Itoa(len(l)) + " signatures", errMany}
	}
	return nil
}

// maySign tells why nobody may sign a note under a name, if so.
func maySign(n api.Note, name string) error {
	if err := mayNote(n); err != nil {
		return err
	}
	if !isName(name) {
		return fault{"the signer's name", errField}
	}
	if _, ok := place(n.Signatures, name); !ok && len(n.Signatures) == api.MaxSigned {
		return fault{"a further signer", errMany}
	}
	return nil
}

// mayMerge tells why two notes can't become one, if so; how many signatures there would be is not looked at.
func mayMerge(a, b api.Note) error {
	if err := mayNote(a); err != nil {
		return fault{"the first note", err}
	}
	if err := mayNote(b); err != nil {
		return fault{"the second note", err}
	}
	if bodyOf(a) != bodyOf(b) {
		return fault{"the second note's body", errForm}
	}
	return nil
}

// mustHaveSigned tells why a note counts as not signed by somebody, if so.
func mustHaveSigned(n api.Note, k api.Known) error {
	at, ok := place(n.Signatures, k.Name)
	if !ok {
		return fault{"the note", errNone}
	}
	if signer.Verify(k.Key, signedText(n, k.Name), n.Signatures[at].Data) != api.OK {
		return fault{"signature " + strconv.Itoa(at+1), errBad}
	}
	return nil
}

func isSignature(s api.Signature) bool {
	return isName(s.Name) && len(s.Data) > 0 && len(s.Data) <= maxData
}

func isName(s string) bool {
	for _, sign := range s {
		if !isNameSign(sign) {
			return false
		}
	}
	return len(s) > 0 && len(s) <= api.MaxName
}

func isNameSign(sign rune) bool {
	switch sign {
	case '.', '-', '/':
		return true
	}
	return 'a' <= sign && sign <= 'z' || '0' <= sign && sign <= '9'
}
