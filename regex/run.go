package regex

import "orangery/utf"

// Kinds of ops.
const (
	take = iota // a character of the set, and on to the next op
	jump        // on to x
	fork        // on to x, and to y
	done
)

// op is one of a program.
type op struct {
	kind int
	x, y int
	set  set
}

const (
	noChar = -1 // a byte that begins no character
	noOp   = -1
)

// add lays an op behind all others; its place.
func (p *Prog) add(o op) int {
	p.ops = append(p.ops, o)
	return len(p.ops) - 1
}

// pattern lays a pattern's ops. Each branch but the last one begins by a fork to itself and the next one, and ends by a jump behind all.
func (p *Prog) pattern(l pattern) {
	var ends []int
	for i, b := range l {
		last := i == len(l)-1
		at := noOp
		if !last {
			at = p.add(op{kind: fork, x: len(p.ops) + 1})
		}
		for _, x := range b {
			p.piece(x)
		}
		if !last {
			ends = append(ends, p.add(op{kind: jump}))
			p.ops[at].y = len(p.ops)
		}
	}
	for _, at := range ends {
		p.ops[at].x = len(p.ops)
	}
}

func (p *Prog) piece(x piece) {
	last := len(p.ops)
	for range x.least {
		last = len(p.ops)
		p.atom(x.atom)
	}
	switch {
	case x.most == noEnd && x.least > 0:
		p.add(op{kind: fork, x: last, y: len(p.ops) + 1})
	case x.most == noEnd:
		at := p.add(op{kind: fork, x: len(p.ops) + 1})
		p.atom(x.atom)
		p.add(op{kind: jump, x: at})
		p.ops[at].y = len(p.ops)
	default:
		var forks []int
		for range x.most - x.least {
			forks = append(forks, p.add(op{kind: fork, x: len(p.ops) + 1}))
			p.atom(x.atom)
		}
		for _, at := range forks {
			p.ops[at].y = len(p.ops)
		}
	}
}

func (p *Prog) atom(a atom) {
	if a.group != nil {
		p.pattern(a.group)
	} else {
		p.add(op{kind: take, set: a.set})
	}
}

// ahead are the ops that one leads to with no character; noOp stands for none.
func ahead(o op) (int, int) {
	switch o.kind {
	case jump:
		return o.x, noOp
	case fork:
		return o.x, o.y
	}
	return noOp, noOp
}

// reach lays behind l the places of a program's ops that one leads to, each once a round: seen tells the round in which each was reached last.
func reach[T any](program []T, ahead func(T) (int, int), l []int, from int, seen []int, round int) []int {
	if from == noOp || seen[from] == round {
		return l
	}
	seen[from] = round
	l = append(l, from)
	x, y := ahead(program[from])
	l = reach(program, ahead, l, x, seen, round)
	return reach(program, ahead, l, y, seen, round)
}

// run goes over a text with all ops that may be reached at once; whole: from its beginning to its end, else from anywhere to anywhere.
func (p *Prog) run(t string, whole bool) bool {
	seen := make([]int, len(p.ops))
	now, next := []int{}, []int{}
	now = reach(p.ops, ahead, now, 0, seen, 1)
	b := []byte(t)
	for round := 2; len(b) > 0; round++ {
		if len(now) == 0 {
			return false
		}
		if !whole && p.isDone(now) {
			return true
		}
		c, n := utf.Next(b)
		if n == 0 {
			c, n = noChar, 1
		}
		b = b[n:]
		next = next[:0]
		for _, at := range now {
			if o := p.ops[at]; o.kind == take && o.set.has(c) {
				next = reach(p.ops, ahead, next, at+1, seen, round)
			}
		}
		if !whole {
			next = reach(p.ops, ahead, next, 0, seen, round)
		}
		now, next = next, now
	}
	return p.isDone(now)
}

func (p *Prog) isDone(now []int) bool {
	for _, at := range now {
		if p.ops[at].kind == done {
			return true
		}
	}
	return false
}
