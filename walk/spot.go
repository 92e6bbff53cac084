package walk

import (
	"iter"
	"slices"

	"orangery/api"
)

// answer is what is known of a spot.
type answer int8

const (
	unknown answer = iota
	no
	yes
)

// spot is a value that is asked, and where it stands.
type spot struct {
	v     api.Val
	above *spot
	step  api.Step
	kids  []*spot  // when they were asked for
	known []answer // by the filters' numbers
}

// place is where a spot stands.
func (s *spot) place() []api.Step {
	var l []api.Step
	for ; s.above != nil; s = s.above {
		l = append(l, s.step)
	}
	slices.Reverse(l)
	return l
}

// children are an Arr's elements, an Obj's members.
func (s *spot) children() []*spot {
	if s.kids != nil {
		return s.kids
	}
	if s.v.Kind == api.Arr {
		for i, x := range s.v.L {
			s.kids = append(s.kids, &spot{v: x, above: s, step: api.Step{At: i}})
		}
	}
	if s.v.Kind == api.Obj {
		for _, m := range s.v.M {
			s.kids = append(s.kids, &spot{v: m.V, above: s, step: api.Step{Named: true, Name: m.Key}})
		}
	}
	return s.kids
}

// asked are a spot alone, or it and all below it, each ahead of what stands in it.
func (s *spot) asked(deep bool) iter.Seq[*spot] {
	return func(yield func(*spot) bool) {
		waiting := []*spot{s}
		for len(waiting) > 0 {
			next := waiting[len(waiting)-1]
			waiting = waiting[:len(waiting)-1]
			if !yield(next) || !deep {
				return
			}
			for _, kid := range slices.Backward(next.children()) {
				waiting = append(waiting, kid)
			}
		}
	}
}

// member is the place among the children of the first one with a name; -1: there is none.
func (s *spot) member(name string) int {
	if s.v.Kind != api.Obj {
		return -1
	}
	return slices.IndexFunc(s.v.M, func(m api.Member) bool { return m.Key == name })
}

// elements is how many there are.
func (s *spot) elements() int {
	if s.v.Kind != api.Arr {
		return 0
	}
	return len(s.v.L)
}

// element is the place among the children of the one that is asked for; -1: there is none.
func (s *spot) element(at int) int {
	if at < 0 {
		at += s.elements()
	}
	if at < 0 || at >= s.elements() {
		return -1
	}
	return at
}
