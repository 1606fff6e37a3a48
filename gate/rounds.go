package gate

import "bounded/known"

// rounds finds out early that the looking would not come to an end. What is known behind so many steps, at all places, is a level. If a level covers one of before, all that came of that one comes of it too, so that another one will cover it, and so on.
type rounds struct {
	marked []known.Known // a level of before
	steps  int           // of the level that is being looked at
	seen   int           // how many of it have been looked at
	covers bool          // whether each of them covers its fellow in the marked one
}

// endless takes, one by one and level by level, what is looked at. It answers whether the level ahead of this one covered the marked one.
func (r *rounds) endless(k *known.Known) bool {
	if k.Steps() != r.steps {
		if r.covers && r.seen == len(r.marked) {
			return true
		}
		r.begin(k.Steps())
	}
	r.see(k)
	return false
}

func (r *rounds) begin(steps int) {
	*r = rounds{marked: r.marked, steps: steps, covers: true}
	if r.marks() {
		r.marked = r.marked[:0]
	}
}

func (r *rounds) see(k *known.Known) {
	if r.marks() {
		r.marked = append(r.marked, *k)
	}
	r.covers = r.covers && !r.marks() && r.seen < len(r.marked) && k.Covers(&r.marked[r.seen])
	r.seen++
}

// marks tells whether the level becomes the marked one: those of nought and of the powers of two do. A loop may begin late and its rounds may be long, so the mark must move on, and ever more seldom.
func (r *rounds) marks() bool { return r.steps&(r.steps-1) == 0 }
