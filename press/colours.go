package press

import (
	"iter"
	"slices"

	"tympan/api"
)

const (
	// never is the drying of a colour behind which another one may not come.
	never = -1
	// maxMinutes is the most minutes for which trees are looked at: more than all orders take.
	maxMinutes = 1000000
)

// CheckColours: see the chapter.
func CheckColours(c api.PressColours) api.Errno {
	colours := len(c.Minutes)
	switch {
	case colours > api.MaxColours:
		return api.ErrLarge
	case slices.ContainsFunc(c.Minutes, func(n int) bool { return !isRunMinutes(n) }):
		return api.ErrRange
	case len(c.Dry) != colours:
		return api.ErrShape
	}
	return errorOfRows(c.Dry, never)
}

// OrderMinutes: see the chapter.
func OrderMinutes(c api.PressColours, order []int) (int, api.Errno) {
	if e := CheckColours(c); e != api.OK {
		return 0, e
	}
	if e := errorOfOrder(order, len(c.Minutes)); e != api.OK {
		return 0, e
	}
	return minutesOf(c, order)
}

// minutesOf returns how long an order of all or of some colours takes, or ErrClash if it is barred.
func minutesOf(c api.PressColours, order []int) (int, api.Errno) {
	ends := make([]int, len(order))
	end := 0
	for place, colour := range order {
		begin := end
		for ahead, earlier := range order[:place] {
			dry := c.Dry[earlier][colour]
			if dry == never {
				return 0, api.ErrClash
			}
			begin = max(begin, ends[ahead]+dry)
		}
		end = begin + c.Minutes[colour]
		ends[place] = end
	}
	return end, api.OK
}

// BestOrder: see the chapter.
func BestOrder(c api.PressColours) ([]int, int, []api.ColourNode, api.Errno) {
	if e := CheckColours(c); e != api.OK {
		return nil, 0, nil, e
	}
	order, minutes, e := leastOrder(len(c.Minutes), func(order []int) (int, api.Errno) {
		return minutesOf(c, order)
	})
	t := orderTree{PressColours: c, bound: minutes}
	if e != api.OK {
		t.bound = maxMinutes
	}
	t.grow()
	return order, minutes, t.nodes, e
}

// orderTree is a tree of orders of colours for some minutes, and the order at the node where we are.
type orderTree struct {
	api.PressColours
	bound int
	nodes []api.ColourNode
	order []int
}

// left returns the colours that do not stand in the order where we are.
func (t *orderTree) left() []int {
	var left []int
	for colour := range t.Minutes {
		if !slices.Contains(t.order, colour) {
			left = append(left, colour)
		}
	}
	return left
}

// branches yields the numbers of the branches of a split where we are. Within the loop we are at the
// branch.
func (t *orderTree) branches() iter.Seq[int] {
	return func(yield func(int) bool) {
		for branch, colour := range t.left() {
			t.order = append(t.order, colour)
			goesOn := yield(branch)
			t.order = t.order[:len(t.order)-1]
			if !goesOn {
				return
			}
		}
	}
}

// holds tells whether a leaf of a kind holds where we are.
func (t *orderTree) holds(kind int) bool {
	minutes, e := minutesOf(t.PressColours, t.order)
	if kind == api.ColourBarred {
		return e != api.OK
	}
	for _, colour := range t.left() {
		minutes += t.Minutes[colour]
	}
	return e == api.OK && minutes >= t.bound
}

// grow adds the node for where we are, with all below it, and returns its number. An order of all
// colours is barred or takes the minutes at least, so a leaf holds where no colour is left. All the
// orders of some of 6 colours are 1957, so there are not too many nodes.
func (t *orderTree) grow() int {
	at := len(t.nodes)
	for _, kind := range []int{api.ColourBarred, api.ColourLate} {
		if t.holds(kind) {
			t.nodes = append(t.nodes, api.ColourNode{Kind: kind})
			return at
		}
	}
	t.nodes = append(t.nodes, api.ColourNode{Kind: api.ColourSplit})
	var next []int
	for range t.branches() {
		next = append(next, t.grow())
	}
	t.nodes[at].Next = next
	return at
}

// CheckColourTree: see the chapter.
func CheckColourTree(c api.PressColours, minutes int, tree []api.ColourNode) (int, api.Errno) {
	if e := CheckColours(c); e != api.OK {
		return 0, e
	}
	if !isFrom(0, maxMinutes, minutes) {
		return 0, api.ErrRange
	}
	if !isFrom(1, api.MaxColourNodes, len(tree)) {
		return 0, api.ErrShape
	}
	t := orderTree{PressColours: c, bound: minutes, nodes: tree}
	return t.check(0)
}

// check returns the first error of a node and all below it, with the number of its node. However often
// nodes are named, there are not more paths than orders of some of the colours.
func (t *orderTree) check(at int) (int, api.Errno) {
	if e := t.errorOfNode(at); e != api.OK {
		return at, e
	}
	if t.nodes[at].Kind != api.ColourSplit {
		return 0, api.OK
	}
	for branch := range t.branches() {
		if below, e := t.check(t.nodes[at].Next[branch]); e != api.OK {
			return below, e
		}
	}
	return 0, api.OK
}

// errorOfNode tells what is wrong with a node where we are.
func (t *orderTree) errorOfNode(at int) api.Errno {
	switch kind := t.nodes[at].Kind; kind {
	case api.ColourSplit:
		return t.errorOfSplit(at)
	case api.ColourBarred, api.ColourLate:
		if !t.holds(kind) {
			return api.ErrProof
		}
		return api.OK
	}
	return api.ErrKind
}

func (t *orderTree) errorOfSplit(at int) api.Errno {
	next, left := t.nodes[at].Next, len(t.left())
	if left == 0 || len(next) != left {
		return api.ErrShape
	}
	for _, to := range next {
		if !isFrom(0, len(t.nodes)-1, to) {
			return api.ErrMissing
		}
		if to <= at {
			return api.ErrOrder
		}
	}
	return api.OK
}
