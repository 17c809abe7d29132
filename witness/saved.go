package witness

import (
	"scrivener/api"
	"scrivener/codec"
	"scrivener/digest"
)

const letters = "SW"

// text is the one way in which the logs stand as bytes.
func (l logs) text() string {
	w := codec.NewWriter()
	w.Raw(letters)
	w.Num(len(l))
	for _, x := range l {
		w.Text(x.known.Name, api.MaxName)
		w.Raw(x.known.Key)
		w.Num(x.last.Size)
		w.Raw(x.last.Root)
	}
	// No error can come: origins are names, and sizes are numbers.
	text, _ := w.Done()
	return text + digest.Sum(text)
}

// logsOf are the logs whose text it is, if it is some's. It is held to the text that these have: so no byte of it can be another one, or be missing, or stand behind it.
func logsOf(text string) (logs, bool) {
	r := codec.NewReader(text)
	r.Raw(len(letters))
	many := r.Num()
	if many > api.MaxLogs {
		return nil, false
	}
	var l logs
	for range many {
		l = append(l, readEntry(r))
	}
	return l, l.mayBe() && l.text() == text
}

// readEntry takes what stands of one log; whether that may be is not looked at.
func readEntry(r *codec.Reader) entry {
	var x entry
	x.known.Name = r.Text(api.MaxName)
	x.known.Key = r.Raw(api.HashSize)
	x.last.Size = r.Num()
	x.last.Root = r.Raw(api.HashSize)
	return entryOf(x.known, x.last)
}

// mayBe tells whether a witness may know these.
func (l logs) mayBe() bool {
	for i, x := range l {
		if !x.mayBe() || i > 0 && l[i-1].known.Name >= x.known.Name {
			return false
		}
	}
	return true
}

func (x entry) mayBe() bool {
	return isName(x.known.Name) && x.last.Size <= api.MaxSize && (x.last.Size > 0 || x.last == unsigned())
}
