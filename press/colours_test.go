package press_test

import (
	"fmt"
	"slices"
	"testing"

	"tympan/api"
	"tympan/press"
)

// wrongColours is colours with their error.
type wrongColours struct {
	what string
	c    api.PressColours
	e    api.Errno
}

func allWrongColours() []wrongColours {
	type colours = *api.PressColours
	with := func(what string, e api.Errno, change func(c colours)) wrongColours {
		return wrongColours{what, changed(three(), change), e}
	}
	return []wrongColours{
		{"seven", wet(1, 1, 1, 1, 1, 1, 1), api.ErrLarge},
		{"seven that are wrong", api.PressColours{Minutes: slices.Repeat([]int{-1}, 7)}, api.ErrLarge},
		with("minutes below 0", api.ErrRange, func(c colours) { c.Minutes[2] = -1 }),
		with("many minutes", api.ErrRange, func(c colours) { c.Minutes[0] = 10001 }),
		with("wrong minutes, and no rows", api.ErrRange, func(c colours) { c.Minutes[1], c.Dry = great, nil }),
		with("no rows", api.ErrShape, func(c colours) { c.Dry = nil }),
		with("two rows", api.ErrShape, func(c colours) { c.Dry = c.Dry[:2] }),
		with("four rows", api.ErrShape, func(c colours) { c.Dry = append(c.Dry, []int{0, 0, 0}) }),
		with("two rows, and wrong numbers", api.ErrShape, func(c colours) { c.Dry = [][]int{{-2, 0, 0}, {0, 0, 0}} }),
		with("a row of two", api.ErrShape, func(c colours) { c.Dry[1] = []int{-2, 0} }),
		with("a row of four", api.ErrShape, func(c colours) { c.Dry[0] = []int{0, 0, 0, 0} }),
		with("an empty row", api.ErrShape, func(c colours) { c.Dry[2] = nil }),
		with("a drying below -1", api.ErrRange, func(c colours) { c.Dry[2][1] = -2 }),
		with("a long drying", api.ErrRange, func(c colours) { c.Dry[0][1] = 10001 }),
		with("a long drying ahead of itself", api.ErrRange, func(c colours) { c.Dry[1][1] = great }),
		with("a drying, then a row", api.ErrRange, func(c colours) { c.Dry[0][2], c.Dry[1] = small, nil }),
		with("a row, then a drying", api.ErrShape, func(c colours) { c.Dry[0], c.Dry[1][0] = nil, -2 }),
		{"rows of no colours", api.PressColours{Dry: [][]int{{}}}, api.ErrShape},
	}
}

// P9.4: right colours and wrong ones.
func TestCheckColours(t *testing.T) {
	for _, c := range []api.PressColours{{}, three(), wet(0), wet(10000, 0, 10000, 0, 10000, 0), dryFor(-1, 1, 2), dryFor(10000, 3, 4)} {
		want(t, "CheckColours", 0, press.CheckColours(c), 0, api.OK)
	}
	for _, w := range allWrongColours() {
		want(t, "CheckColours, "+w.what, 0, press.CheckColours(w.c), 0, w.e)
		n, e := press.OrderMinutes(w.c, []int{9})
		want(t, "OrderMinutes, "+w.what, n, e, 0, w.e)
		order, n, tree, e := press.BestOrder(w.c)
		want(t, "BestOrder, "+w.what, order, e, nil, w.e)
		want(t, "BestOrder, "+w.what, n, e, 0, w.e)
		want(t, "BestOrder, "+w.what, tree, e, nil, w.e)
		n, e = press.CheckColourTree(w.c, -1, nil)
		want(t, "CheckColourTree, "+w.what, n, e, 0, w.e)
	}
}

// P9.4: orders of the chapter's example, and some others.
func TestOrderMinutes(t *testing.T) {
	far := wet(5, 1, 1, 1)
	far.Dry[0][3], far.Dry[1][2] = 100, 10
	self := three()
	self.Dry[0][0], self.Dry[2][2] = -1, 10000
	for _, x := range []struct {
		what   string
		c      api.PressColours
		order  []int
		wanted int
		e      api.Errno
	}{
		{"example 4", three(), []int{0, 2, 1}, 90, api.OK},
		{"example 4", three(), []int{2, 0, 1}, 120, api.OK},
		{"example 4", three(), []int{0, 1, 2}, 0, api.ErrClash},
		{"example 4", three(), []int{1, 0, 2}, 0, api.ErrClash},
		{"example 4", three(), []int{1, 2, 0}, 0, api.ErrClash},
		{"example 4", three(), []int{2, 1, 0}, 0, api.ErrClash},
		{"none", api.PressColours{}, nil, 0, api.OK},
		{"one", dryFor(-1, 7), []int{0}, 7, api.OK},
		{"without drying", wet(1, 2, 3, 4, 5, 6), []int{5, 3, 1, 0, 2, 4}, 21, api.OK},
		// 5, 6, 17 (10 behind 6), 106 (100 behind 5).
		{"drying of colours far ahead", far, []int{0, 1, 2, 3}, 106, api.OK},
		// 1, 2, 7, 108.
		{"drying of the one before", far, []int{1, 3, 0, 2}, 12, api.OK},
		{"minutes ahead of drying", far, []int{2, 1, 3, 0}, 8, api.OK},
		{"drying ahead of itself", self, []int{0, 2, 1}, 90, api.OK},
		{"barred behind the first one", changed(wet(1, 2, 3), func(c *api.PressColours) { c.Dry[0][2] = -1 }), []int{0, 1, 2}, 0, api.ErrClash},
		{"barred the other way round", changed(wet(1, 2, 3), func(c *api.PressColours) { c.Dry[0][2] = -1 }), []int{2, 1, 0}, 6, api.OK},
		{"too few", three(), []int{0, 2}, 0, api.ErrShape},
		{"too few, none of them", three(), []int{3, 3}, 0, api.ErrShape},
		{"too many", three(), []int{0, 2, 1, 1}, 0, api.ErrShape},
		{"none of three", three(), nil, 0, api.ErrShape},
		{"one of none", api.PressColours{}, []int{0}, 0, api.ErrShape},
		{"no such colour", three(), []int{0, 2, 3}, 0, api.ErrMissing},
		{"a number below 0", three(), []int{-1, 1, 1}, 0, api.ErrMissing},
		{"twice", three(), []int{0, 2, 0}, 0, api.ErrDouble},
		{"twice, then no such one", three(), []int{1, 1, 3}, 0, api.ErrDouble},
		{"no such one, then twice", three(), []int{great, 1, 1}, 0, api.ErrMissing},
	} {
		n, e := press.OrderMinutes(x.c, x.order)
		want(t, fmt.Sprint("OrderMinutes, ", x.what, ", ", x.order), n, e, x.wanted, x.e)
	}
}

// minutesOf returns what an order of some colours takes, minute by minute, or -1 if it is barred.
func minutesOf(c api.PressColours, order []int) int {
	ends := map[int]int{}
	minute := 0
	for place, colour := range order {
		for _, earlier := range order[:place] {
			if c.Dry[earlier][colour] == -1 {
				return -1
			}
		}
		for slices.ContainsFunc(order[:place], func(earlier int) bool { return minute < ends[earlier]+c.Dry[earlier][colour] }) {
			minute++
		}
		minute += c.Minutes[colour]
		ends[colour] = minute
	}
	return minute
}

// P9.4, P9.8: the best order of made colours by the definition, with a tree that proves it.
func TestBestOrder(t *testing.T) {
	m := newMaker(6)
	barred := 0
	for range 400 {
		c := m.colours(5)
		var best []int
		least := -1
		for _, order := range allOrders(len(c.Minutes)) {
			minutes := minutesOf(c, order)
			n, e := press.OrderMinutes(c, order)
			if minutes < 0 {
				want(t, "OrderMinutes", n, e, 0, api.ErrClash)
				continue
			}
			want(t, "OrderMinutes", n, e, minutes, api.OK)
			if least < 0 || minutes < least {
				best, least = order, minutes
			}
		}
		wantError := api.OK
		if least < 0 {
			wantError = api.ErrNone
			barred++
		}
		checkBest(t, c, best, max(least, 0), wantError)
	}
	if barred < 30 || barred > 300 {
		t.Errorf("%d of 400 colours are barred in all orders", barred)
	}
}

func checkBest(t *testing.T, c api.PressColours, order []int, minutes int, wantError api.Errno) {
	t.Helper()
	got, n, tree, e := press.BestOrder(c)
	what := fmt.Sprint("BestOrder of ", c)
	want(t, what, got, e, order, wantError)
	want(t, what+", minutes", n, e, minutes, wantError)
	bound := minutes
	if wantError == api.ErrNone {
		bound = 1000000
	}
	at, e := press.CheckColourTree(c, bound, tree)
	want(t, what+", the tree", at, e, 0, api.OK)
	if wantError == api.OK && isAccepted(t, c, minutes+1, tree) {
		t.Errorf("%s: the tree %v is accepted for a minute more than %d", what, tree, minutes)
	}
}

// P9.4: best orders of the chapter's example, of none, and of as many colours as there may be.
func TestBestOrders(t *testing.T) {
	checkBest(t, three(), []int{0, 2, 1}, 90, api.OK)
	checkBest(t, api.PressColours{}, nil, 0, api.OK)
	_, _, tree, e := press.BestOrder(api.PressColours{})
	want(t, "the tree without colours", tree, e, []api.ColourNode{{Kind: api.ColourLate}}, api.OK)
	checkBest(t, wet(0), []int{0}, 0, api.OK)
	checkBest(t, dryFor(-1, 5), []int{0}, 5, api.OK)
	checkBest(t, dryFor(-1, 0, 0), nil, 0, api.ErrNone)
	checkBest(t, wet(6, 5, 4, 3, 2, 1), []int{0, 1, 2, 3, 4, 5}, 21, api.OK)
	checkBest(t, dryFor(10000, 10000, 10000, 10000, 10000, 10000, 10000), []int{0, 1, 2, 3, 4, 5}, 110000, api.OK)
	checkBest(t, dryFor(-1, 1, 2, 3, 4, 5, 6), nil, 0, api.ErrNone)
	// Each one must stand ahead of the next one, and the last one ahead of the first one.
	ring := wet(1, 1, 1, 1, 1, 1)
	for i := range 6 {
		ring.Dry[(i+1)%6][i] = -1
	}
	checkBest(t, ring, nil, 0, api.ErrNone)
	ring.Dry[0][5] = 0
	checkBest(t, ring, []int{0, 1, 2, 3, 4, 5}, 6, api.OK)
	// A single order is not barred: the last one.
	last := wet(1, 2, 3, 4, 5, 6)
	for i := range 6 {
		for k := range i {
			last.Dry[k][i] = -1
		}
	}
	checkBest(t, last, []int{5, 4, 3, 2, 1, 0}, 21, api.OK)
	// The last two and the others dry ahead of each other.
	late := wet(1, 1, 1, 1, 1, 1)
	for i := range 4 {
		late.Dry[i][5], late.Dry[5][i], late.Dry[4][i], late.Dry[i][4] = 9, 9, 9, 9
	}
	checkBest(t, late, []int{0, 1, 2, 3, 4, 5}, 15, api.OK)
}

func colourSplit(next ...int) api.ColourNode {
	return api.ColourNode{Kind: api.ColourSplit, Next: next}
}

func colourLeaf(kind int) api.ColourNode {
	return api.ColourNode{Kind: kind}
}

// P9.4: trees for the chapter's example, with the minutes, the node and the error.
func TestCheckColourTree(t *testing.T) {
	barred, late := colourLeaf(api.ColourBarred), colourLeaf(api.ColourLate)
	// Behind 0 comes 1 (70 to 90, and 30 more) or 2, behind which 1 comes; with 1 ahead all is barred;
	// behind 2 come 0 (30 to 40) and 1 (100 to 120), or 1, behind which 0 is barred.
	right := []api.ColourNode{colourSplit(1, 2, 3), colourSplit(4, 5), colourSplit(6, 7), colourSplit(8, 9), late, colourSplit(10), barred, barred, colourSplit(11), colourSplit(12), late, late, barred}
	with := func(at int, node api.ColourNode) []api.ColourNode {
		tree := slices.Clone(right)
		tree[at] = node
		return tree
	}
	long := append(slices.Clone(right), slices.Repeat([]api.ColourNode{late}, 3000-len(right))...)
	for _, x := range []struct {
		what    string
		minutes int
		tree    []api.ColourNode
		at      int
		e       api.Errno
	}{
		{"all that is to be said", 90, right, 0, api.OK},
		{"fewer minutes", 60, []api.ColourNode{late}, 0, api.OK},
		{"no minutes", 0, []api.ColourNode{late}, 0, api.OK},
		{"a minute more than all colours", 61, []api.ColourNode{late}, 0, api.ErrProof},
		{"a minute more than the best order", 91, right, 10, api.ErrProof},
		{"120 minutes", 120, right, 10, api.ErrProof},
		{"121 minutes", 121, right, 4, api.ErrProof},
		{"most minutes", 1000000, right, 4, api.ErrProof},
		{"minutes below 0", -1, right, 0, api.ErrRange},
		{"too many minutes", 1000001, right, 0, api.ErrRange},
		{"minutes below 0, and no nodes", small, nil, 0, api.ErrRange},
		{"no nodes", 90, nil, 0, api.ErrShape},
		{"3000 nodes", 90, long, 0, api.OK},
		{"3001 nodes", 90, append(slices.Clone(long), late), 0, api.ErrShape},
		{"a leaf that is not barred", 90, []api.ColourNode{barred}, 0, api.ErrProof},
		{"a late leaf that is barred", 90, with(6, late), 6, api.ErrProof},
		{"a barred leaf that is late", 90, with(4, barred), 4, api.ErrProof},
		{"a barred order that goes on", 90, append(with(6, colourSplit(13)), barred), 0, api.OK},
		{"a late order that goes on", 90, append(with(4, colourSplit(13)), barred), 0, api.OK},
		{"the first leaf that does not hold", 90, []api.ColourNode{colourSplit(1, 2, 3), barred, late, late}, 1, api.ErrProof},
		{"a kind below 0", 90, with(4, colourLeaf(-1)), 4, api.ErrKind},
		{"a kind of 3", 90, with(0, colourLeaf(3)), 0, api.ErrKind},
		{"a kind with branches", 90, with(3, api.ColourNode{Kind: great, Next: []int{8, 9}}), 3, api.ErrKind},
		{"a leaf with branches", 90, with(4, api.ColourNode{Kind: api.ColourLate, Next: []int{-1, great}}), 0, api.OK},
		{"too few branches", 90, with(0, colourSplit(1, 2)), 0, api.ErrShape},
		{"too many branches", 90, with(1, colourSplit(4, 5, 5)), 1, api.ErrShape},
		{"no branches", 90, with(5, colourSplit()), 5, api.ErrShape},
		{"none left", 90, with(10, colourSplit()), 10, api.ErrShape},
		{"none left, and a branch", 90, with(10, colourSplit(11)), 10, api.ErrShape},
		{"too few branches, no such ones", 90, with(0, colourSplit(-1, -1)), 0, api.ErrShape},
		{"no such branch", 90, with(3, colourSplit(8, 13)), 3, api.ErrMissing},
		{"a branch below 0", 90, with(1, colourSplit(-1, 5)), 1, api.ErrMissing},
		{"a very small branch", 90, with(1, colourSplit(small, 5)), 1, api.ErrMissing},
		{"the node itself", 90, with(3, colourSplit(3, 9)), 3, api.ErrOrder},
		{"a branch back", 90, with(3, colourSplit(8, 2)), 3, api.ErrOrder},
		{"the root", 90, with(0, colourSplit(1, 0, 3)), 0, api.ErrOrder},
		{"a branch back, then none", 90, with(1, colourSplit(0, 99)), 1, api.ErrOrder},
		{"no branch, then one back", 90, with(1, colourSplit(99, 0)), 1, api.ErrMissing},
		{"a node ahead of its branches", 90, []api.ColourNode{colourSplit(1, 2, 0), barred, barred}, 0, api.ErrOrder},
		{"the first branch ahead of the second one", 90, []api.ColourNode{colourSplit(2, 1, 1), colourLeaf(7), barred}, 2, api.ErrProof},
		{"below the first branch ahead of the second one", 90, append(with(2, colourLeaf(9))[:10:10], barred), 10, api.ErrProof},
		{"below the first branch", 90, with(5, colourSplit(99))[:10], 5, api.ErrMissing},
		{"nodes that are named twice", 90, []api.ColourNode{colourSplit(1, 3, 2), colourSplit(6, 4), colourSplit(4, 5), colourSplit(7, 7), colourSplit(6), colourSplit(7), late, barred}, 0, api.OK},
		{"nodes that are not named", 90, append(slices.Clone(right), colourLeaf(9), colourSplit(-1)), 0, api.OK},
	} {
		at, e := press.CheckColourTree(three(), x.minutes, x.tree)
		want(t, "CheckColourTree, "+x.what, at, e, x.at, x.e)
	}
}

// P9.4: a tree without colours is a leaf for 0 minutes.
func TestTreesWithoutColours(t *testing.T) {
	for _, x := range []struct {
		minutes int
		node    api.ColourNode
		e       api.Errno
	}{
		{0, colourLeaf(api.ColourLate), api.OK},
		{1, colourLeaf(api.ColourLate), api.ErrProof},
		{0, colourLeaf(api.ColourBarred), api.ErrProof},
		{0, colourSplit(), api.ErrShape},
		{0, colourSplit(0), api.ErrShape},
	} {
		at, e := press.CheckColourTree(api.PressColours{}, x.minutes, []api.ColourNode{x.node})
		want(t, fmt.Sprint("CheckColourTree of ", x.node, x.minutes), at, e, 0, x.e)
	}
}

// firstWrong returns the first error of a tree, and its node, by the definition: the orders of the
// nodes are told on the way.
func firstWrong(c api.PressColours, minutes int, tree []api.ColourNode, at int, order []int) (int, api.Errno) {
	node := tree[at]
	var left []int
	together := 0
	for colour, n := range c.Minutes {
		if !slices.Contains(order, colour) {
			left = append(left, colour)
			together += n
		}
	}
	takes := minutesOf(c, order)
	switch node.Kind {
	case 0:
		if len(left) == 0 || len(node.Next) != len(left) {
			return at, api.ErrShape
		}
		for _, next := range node.Next {
			if next < 0 || next >= len(tree) {
				return at, api.ErrMissing
			}
			if next <= at {
				return at, api.ErrOrder
			}
		}
		for i, next := range node.Next {
			if n, e := firstWrong(c, minutes, tree, next, append(slices.Clone(order), left[i])); e != api.OK {
				return n, e
			}
		}
		return 0, api.OK
	case 1:
		if takes >= 0 {
			return at, api.ErrProof
		}
		return 0, api.OK
	case 2:
		if takes < 0 || takes+together < minutes {
			return at, api.ErrProof
		}
		return 0, api.OK
	}
	return at, api.ErrKind
}

// spoilTree changes something of a tree.
func (m maker) spoilTree(tree []api.ColourNode) []api.ColourNode {
	tree = slices.Clone(tree)
	node := &tree[m.Intn(len(tree))]
	node.Next = slices.Clone(node.Next)
	switch m.Intn(4) {
	case 0:
		node.Kind = m.from(-1, 3)
	case 1:
		if len(node.Next) > 0 {
			node.Next[m.Intn(len(node.Next))] = m.from(-1, len(tree))
		}
	case 2:
		node.Next = append(node.Next, m.Intn(len(tree)))
	case 3:
		if len(node.Next) > 0 {
			node.Next = node.Next[1:]
		}
	}
	return tree
}

// P9.4, P9.8: spoilt trees of made colours, by the definition; if one is accepted, no order takes less.
func TestSpoiltTrees(t *testing.T) {
	m := newMaker(7)
	errors := map[api.Errno]int{}
	for range 3000 {
		c := m.colours(4)
		_, best, tree, e := press.BestOrder(c)
		if e != api.OK {
			best = 1000000
		}
		for range m.Intn(3) {
			tree = m.spoilTree(tree)
		}
		minutes := min(max(best+m.from(-4, 1), 0), 1000000)
		wantAt, wantError := firstWrong(c, minutes, tree, 0, nil)
		at, e := press.CheckColourTree(c, minutes, tree)
		want(t, fmt.Sprint("CheckColourTree of ", c, minutes, tree), at, e, wantAt, wantError)
		errors[e]++
		if e == api.OK && minutes > best {
			t.Errorf("%v: the tree %v is accepted for %d minutes, but an order takes %d", c, tree, minutes, best)
		}
	}
	if len(errors) != 6 {
		t.Errorf("errors: %v", errors)
	}
}
