package tx

import (
	"bytes"

	"pappus/api"
	"pappus/octet"
)

// reader takes parts off the front of bytes. Its first error stays, and every part behind it is zero: so who reads asks for the error once, in the end.
type reader struct {
	rest []byte
	err  api.Errno
}

// tx takes a transaction.
func (r *reader) tx() api.Tx {
	var t api.Tx
	t.Version = uint32(r.number(4))
	for range r.count(api.MaxIns) {
		t.Ins = append(t.Ins, r.in())
	}
	for range r.count(api.MaxOuts) {
		t.Outs = append(t.Outs, r.out())
	}
	return t
}

// in takes an input.
func (r *reader) in() api.In {
	var in api.In
	in.From.Tx = r.hash()
	in.From.N = uint32(r.number(4))
	in.Key = bytes.Clone(r.take(r.count(api.MaxWitness)))
	return in
}

// out takes an output.
func (r *reader) out() api.Out {
	var out api.Out
	out.Value = r.number(8)
	out.Lock = r.hash()
	return out
}

// number takes a number of n bytes.
func (r *reader) number(n int) uint64 {
	x, _ := octet.Get(r.take(n))
	return x
}

// hash takes a hash.
func (r *reader) hash() api.Hash {
	var h api.Hash
	copy(h[:], r.take(len(h)))
	return h
}

// count takes a count or a length of at most so many.
func (r *reader) count(most uint64) int {
	if r.err != api.OK {
		return 0
	}
	x, n, e := octet.Read(r.rest)
	if e != api.OK {
		r.err = e
		return 0
	}
	if x > most {
		r.err = api.ErrLong
		return 0
	}
	r.rest = r.rest[n:]
	return int(x)
}

// take takes n bytes, which are still those that are read; none where there aren't so many.
func (r *reader) take(n int) []byte {
	if r.err != api.OK {
		return nil
	}
	if len(r.rest) < n {
		r.err = api.ErrShort
		return nil
	}
	b := r.rest[:n]
	r.rest = r.rest[n:]
	return b
}
