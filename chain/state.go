package chain

import (
	"slices"

	"pappus/api"
	"pappus/coin"
	"pappus/fee"
	"pappus/tx"
)

// state is what blocks leave: the coins, and who stands in a block.
type state struct {
	*coin.Set
	done map[api.Hash]struct{}
}

// step is what one transaction did.
type step struct {
	id    api.Hash
	taken []api.Coin
	made  []api.Point
}

// stands says whether a transaction of that id stands in a block.
func (s *state) stands(id api.Hash) bool {
	_, there := s.done[id]
	return there
}

// spendAll does what transactions do, one behind the other, all or none.
func (s *state) spendAll(l []api.Tx) ([]step, api.Errno) {
	var did []step
	for _, t := range l {
		d, e := s.spend(t)
		if e != api.OK {
			s.undo(did)
			return nil, e
		}
		did = append(did, d)
	}
	return did, api.OK
}

// spend does what a transaction does, or nothing.
func (s *state) spend(t api.Tx) (step, api.Errno) {
	if e := tx.Check(t); e != api.OK {
		return step{}, e
	}
	// What Check lets through has a form, and so an id and coins.
	id, _ := tx.Id(t)
	if s.stands(id) {
		return step{}, api.ErrDone
	}
	// No point stands twice in it, as Check says: what may fail is that one isn't there.
	points := tx.Points(t)
	outs, e := s.Take(points...)
	if e != api.OK {
		return step{}, api.ErrLost
	}
	taken := coinsOf(points, outs)
	made, _ := tx.Coins(t)
	if e := s.swap(t, outs, made); e != api.OK {
		s.Put(taken...)
		return step{}, e
	}
	s.done[id] = struct{}{}
	return step{id, taken, pointsOf(made)}, api.OK
}

// swap puts what a transaction makes, if it may have that for the outputs that are taken.
func (s *state) swap(t api.Tx, outs []api.Out, made []api.Coin) api.Errno {
	if _, e := fee.Of(t, outs); e != api.OK {
		return e
	}
	return s.Put(made...)
}

// undo takes back what transactions did, the last one's first: what one made may be what the next one took.
func (s *state) undo(did []step) {
	for _, d := range slices.Backward(did) {
		s.Take(d.made...)
		s.Put(d.taken...)
		delete(s.done, d.id)
	}
}

// fill makes what isn't there yet.
func (s *state) fill() {
	if s.Set == nil {
		// Of no coins there is a set, too.
		s.Set, _ = coin.New()
	}
	if s.done == nil {
		s.done = map[api.Hash]struct{}{}
	}
}

// coinsOf are points and their outputs, as coins; there are as many of both.
func coinsOf(points []api.Point, outs []api.Out) []api.Coin {
	var l []api.Coin
	for i, p := range points {
		l = append(l, api.Coin{At: p, Out: outs[i]})
	}
	return l
}
