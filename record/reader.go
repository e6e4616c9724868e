package record

import (
	"garner/api"
	"garner/varint"
)

// reader reads the bytes b from the place at on. Behind its first error, which stays, it reads nothing more and answers zero values.
type reader struct {
	b  []byte
	at int
	e  api.Errno
}

// record reads a record, whatever its labels and its line are.
func (in *reader) record() api.Record {
	var r api.Record
	r.Time = varint.Zag(in.number())
	r.Seq = in.number()
	r.Labels = in.labels()
	r.Line = in.text()
	return r
}

// labels reads how many labels there are, and them.
func (in *reader) labels() []api.Label {
	n := in.number()
	if n > api.MaxLabels {
		in.e = api.ErrMany
		return nil
	}
	l := make([]api.Label, n)
	for i := range l {
		l[i].Name = in.text()
		l[i].Value = in.text()
	}
	return l
}

// text reads a text.
func (in *reader) text() string {
	n := in.number()
	if in.e != api.OK {
		return ""
	}
	rest := in.b[in.at:]
	if n > uint64(len(rest)) {
		in.e = api.ErrShort
		return ""
	}
	in.at += int(n)
	return string(rest[:n])
}

// number reads a number.
func (in *reader) number() uint64 {
	if in.e != api.OK {
		return 0
	}
	var n uint64
	n, in.at, in.e = varint.Get(in.b, in.at)
	return n
}
