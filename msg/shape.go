package msg

import (
	"math"

	"pappus/api"
	"pappus/octet"
	"pappus/tx"
)

// shape is a kind's command, and which fields its body has, in this order; one that it doesn't use is zero here.
type shape struct {
	cmd     string
	maxIds  int    // how many Ids there may be
	codeLen int    // how many bytes Code has
	maxCode uint32 // the greatest Code that may be
	nLen    int    // how many bytes N has
	hasTx   bool   // whether there is a Tx, which then is the whole body
}

// shapeOf is the shape of a kind, if there is one.
func shapeOf(kind int) (shape, bool) {
	switch kind {
	case api.Version:
		return shape{cmd: "version", codeLen: 4, maxCode: math.MaxUint32, nLen: 8}, true
	case api.Verack:
		return shape{cmd: "verack"}, true
	case api.Ping:
		return shape{cmd: "ping", nLen: 8}, true
	case api.Pong:
		return shape{cmd: "pong", nLen: 8}, true
	case api.Inv:
		return shape{cmd: "inv", maxIds: api.MaxInv}, true
	case api.Getdata:
		return shape{cmd: "getdata", maxIds: api.MaxInv}, true
	case api.Notfound:
		return shape{cmd: "notfound", maxIds: api.MaxInv}, true
	case api.TxMsg:
		return shape{cmd: "tx", hasTx: true}, true
	case api.StemTx:
		return shape{cmd: "stemtx", hasTx: true}, true
	case api.Reject:
		return shape{cmd: "reject", maxIds: 1, codeLen: 1, maxCode: math.MaxUint8}, true
	case api.SendStem:
		return shape{cmd: "sendstem", codeLen: 1, maxCode: 1}, true
	}
	return shape{}, false
}

// kindOf is the kind that a command names, or 0, which is none.
func kindOf(cmd string) int {
	for kind := api.Version; kind <= api.SendStem; kind++ {
		if s, _ := shapeOf(kind); s.cmd == cmd {
			return kind
		}
	}
	return 0
}

// counted says whether a count stands ahead of the Ids: just one needs none.
func (s shape) counted() bool {
	return s.maxIds > 1
}

// check is what may not be of a message of that shape, but for what layer 7 says of its Tx.
func (s shape) check(m api.Msg) api.Errno {
	switch {
	case !s.covers(m):
		return api.ErrArg
	case s.maxIds > 0 && len(m.Ids) == 0:
		return api.ErrNone
	case len(m.Ids) > s.maxIds:
		return api.ErrLong
	case m.Code > s.maxCode:
		return api.ErrRange
	}
	return api.OK
}

// covers says whether all fields that the shape doesn't use are zero.
func (s shape) covers(m api.Msg) bool {
	switch {
	case s.maxIds == 0 && len(m.Ids) > 0:
		return false
	case s.codeLen == 0 && m.Code != 0:
		return false
	case s.nLen == 0 && m.N != 0:
		return false
	}
	return s.hasTx || tx.Same(m.Tx, api.Tx{})
}

// body is the body of a message that passed the check.
func (s shape) body(m api.Msg) ([]byte, api.Errno) {
	if s.hasTx {
		return tx.Put(m.Tx)
	}
	var b []byte
	if s.counted() {
		b = octet.Var(uint64(len(m.Ids)))
	}
	for _, id := range m.Ids {
		b = append(b, id[:]...)
	}
	b = addNumber(b, uint64(m.Code), s.codeLen)
	return addNumber(b, m.N, s.nLen), api.OK
}

// fixed are the fields of a body whose size the shape alone tells.
func (s shape) fixed(b []byte) (api.Msg, api.Errno) {
	codeAt := s.maxIds * hashLen
	nAt := codeAt + s.codeLen
	if e := sized(b, nAt+s.nLen); e != api.OK {
		return api.Msg{}, e
	}
	code := uint32(number(b[codeAt:nAt]))
	if code > s.maxCode {
		return api.Msg{}, api.ErrForm
	}
	return api.Msg{N: number(b[nAt:]), Code: code, Ids: hashes(b[:codeAt])}, api.OK
}
