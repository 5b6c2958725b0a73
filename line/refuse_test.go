package line_test

import (
	"reflect"
	"slices"
	"testing"

	"tympan/api"
	"tympan/line"
)

// split is a split on a space.
func split(sort int, next ...int) api.LineNode {
	return api.LineNode{Kind: api.LineSplit, Sort: sort, Next: next}
}

func modulus(m int) api.LineNode {
	return api.LineNode{Kind: api.LineModulus, Modulus: m}
}

func leaf(kind int) api.LineNode {
	return api.LineNode{Kind: kind}
}

// second is the task of the chapter's second example.
func second() api.LineTask {
	return changed(example(1550), func(t *api.LineTask) { t.Case = []int{10, 10, 10, 10, 2} })
}

// P3.3: the ways of a task.
func TestWays(t *testing.T) {
	for _, c := range []struct {
		what string
		task api.LineTask
		want int
	}{
		{"example 1", example(1550), 15},
		{"example 2", second(), 9},
		{"an indent of a thin one", changed(second(), func(t *api.LineTask) { t.Indent, t.Measure = []int{4}, 1670 }), 6},
		{"three times the gaps", filling(1000, 2, spaced(1), 9), 4},
		{"one word", filling(1000, 1, spaced(1), 9), 1},
		{"no spaces", filling(1000, 3, spaced()), 1},
		{"nothing to fill", filling(0, 3, spaced(1, 2), 9, 9), 1},
		{"all of them", filling(1000, 30, spaced(1, 2, 3), 1, 2, 3), 24},
		{"2999", filling(20000, 30, spaced(1), 2998), 88},
		{"3000", filling(20000, 30, spaced(1, 2, 3), 9, 4, 59), 3000},
		{"3001", filling(20000, 30, spaced(1, 2, 3), 10, 3, 68), 3001},
		{"3010", filling(20000, 30, spaced(1, 2, 3), 9, 6, 42), 3001},
		{"very many", filling(20000, 30, spaced(1, 2, 3, 4, 5, 6, 7, 8), 99, 99, 99, 99, 99, 99, 99, 99), 3001},
		{"many, and a space of which there are none", filling(20000, 30, spaced(1, 2, 3), 87, 87, 0), 3001},
	} {
		if n, e := line.Ways(c.task); n != c.want || e != api.OK {
			t.Errorf("Ways, %s: %d, error %d, want %d", c.what, n, e, c.want)
		}
	}
	m := newMaker(6)
	for range 2000 {
		task := m.task()
		r, want := roomOf(task)
		ways := 0
		if want == api.OK {
			ways = 1
			for _, most := range r.mosts(task.Fount) {
				ways *= most + 1
			}
		}
		if n, e := line.Ways(task); n != min(ways, 3001) || e != want {
			t.Errorf("Ways of %v: %d, error %d, want %d, error %d", task, n, e, ways, want)
		}
	}
}

// P3.3: refusals of the chapter's examples.
func TestRefuse(t *testing.T) {
	for _, c := range []struct {
		what string
		task api.LineTask
		want []api.LineNode
	}{
		{"example 2", second(), []api.LineNode{split(4, 1, 2, 3), modulus(200), modulus(200), modulus(200)}},
		{"the modulus of example 3", example(1540), []api.LineNode{modulus(40)}},
		{"the long spaces of example 3", example(1220), []api.LineNode{leaf(api.LineLong)}},
		{"too few", filling(20, 3, spaced(10), 1), []api.LineNode{leaf(api.LineFew)}},
		{"too short", filling(70, 3, spaced(10), 9), []api.LineNode{leaf(api.LineShort)}},
		{"one word", filling(70, 1, spaced(10), 9), []api.LineNode{leaf(api.LineShort)}},
		{"no spaces", filling(70, 2, spaced()), []api.LineNode{leaf(api.LineFew)}},
	} {
		nodes, e := line.Refuse(c.task)
		if e != api.OK || !reflect.DeepEqual(nodes, c.want) {
			t.Errorf("Refuse, %s: %v, error %d, want %v", c.what, nodes, e, c.want)
		}
		if n, e := line.CheckRefusal(c.task, c.want); n != 0 || e != api.OK {
			t.Errorf("CheckRefusal, %s: %d, error %d", c.what, n, e)
		}
	}
}

func TestRefuseErrors(t *testing.T) {
	for _, c := range []struct {
		what string
		task api.LineTask
		e    api.Errno
	}{
		{"3001 ways", filling(20000, 30, spaced(1, 2, 3), 10, 3, 68), api.ErrLarge},
		{"many ways and a choice", filling(60, 30, spaced(1, 2, 3), 20, 20, 20), api.ErrLarge},
		{"a choice", example(1550), api.ErrState},
		{"no words that fit", changed(filling(100, 0, spaced(100), 9), func(t *api.LineTask) { t.Indent = []int{1} }), api.ErrState},
	} {
		if nodes, e := line.Refuse(c.task); e != c.e || len(nodes) != 0 {
			t.Errorf("Refuse, %s: %v, error %d, want %d", c.what, nodes, e, c.e)
		}
	}
	if n, e := line.CheckRefusal(filling(20000, 30, spaced(1, 2, 3), 10, 3, 68), nil); n != 0 || e != api.ErrLarge {
		t.Errorf("CheckRefusal with 3001 ways: %d, error %d", n, e)
	}
	if n, e := line.CheckRefusal(filling(20000, 30, spaced(1, 2, 3), 9, 4, 59), []api.LineNode{leaf(api.LineShort)}); n != 0 || e != api.OK {
		t.Errorf("CheckRefusal with 3000 ways: %d, error %d", n, e)
	}
}

// P3.3: trees for the task of example 2 (of each space at most 2; the fill 560, 2 gaps), with the
// node and the error.
func TestCheckRefusal(t *testing.T) {
	right := []api.LineNode{split(4, 1, 2, 3), modulus(200), modulus(200), modulus(200)}
	with := func(at int, node api.LineNode) []api.LineNode {
		tree := slices.Clone(right)
		tree[at] = node
		return tree
	}
	deep := []api.LineNode{split(3, 2, 2, 2), leaf(9), split(4, 3, 4, 5), leaf(api.LineShort), leaf(api.LineShort), leaf(api.LineShort)}
	for _, c := range []struct {
		what string
		tree []api.LineNode
		at   int
		e    api.Errno
	}{
		{"example 2", right, 0, api.OK},
		{"another modulus", with(3, modulus(25)), 0, api.OK},
		{"nodes named twice", []api.LineNode{split(4, 1, 1, 1), modulus(200)}, 0, api.OK},
		{"nodes not named", append(slices.Clone(right), leaf(9), split(9, -1)), 0, api.OK},
		{"nodes in another order", []api.LineNode{split(4, 3, 1, 3), modulus(200), leaf(-1), modulus(200)}, 0, api.OK},
		{"what leaves do not have", with(2, api.LineNode{Kind: api.LineModulus, Modulus: 200, Sort: 77, Next: []int{-5}}), 0, api.OK},
		{"what splits do not have", with(0, api.LineNode{Sort: 4, Modulus: -1, Next: []int{1, 2, 3}}), 0, api.OK},
		// Of the whole.
		{"no nodes", nil, 0, api.ErrShape},
		{"6001 nodes", slices.Repeat([]api.LineNode{leaf(9)}, 6001), 0, api.ErrShape},
		{"6000 nodes", slices.Repeat([]api.LineNode{leaf(9)}, 6000), 0, api.ErrKind},
		// Of a node.
		{"a kind above", with(1, leaf(api.LineModulus+1)), 1, api.ErrKind},
		{"a kind below", with(2, leaf(-1)), 2, api.ErrKind},
		{"a split on a letter", with(0, split(0, 1, 2, 3)), 0, api.ErrMissing},
		{"a split on no sort", with(0, split(5)), 0, api.ErrMissing},
		{"a split on the sort -1", with(2, split(-1)), 2, api.ErrMissing},
		{"a split on a decided space", with(2, split(4)), 2, api.ErrExists},
		{"two branches", with(0, split(4, -1, 2)), 0, api.ErrShape},
		{"four branches", with(0, split(4, 1, 2, 3, 3)), 0, api.ErrShape},
		{"no such branch", with(0, split(4, 1, 4, 0)), 0, api.ErrMissing},
		{"a branch of -1", with(0, split(4, 1, -1, 0)), 0, api.ErrMissing},
		{"a branch to itself", with(0, split(4, 1, 0, 4)), 0, api.ErrOrder},
		{"a branch back", []api.LineNode{split(4, 2, 1, 1), modulus(200), split(3, 1, 3, 3), modulus(200)}, 2, api.ErrOrder},
		// Each node first itself, then all of its branches in their order.
		{"the root ahead of its branches", with(0, split(4, 1, 2)), 0, api.ErrShape},
		{"the first branch ahead of the second one", []api.LineNode{split(4, 2, 1, 1), leaf(7), leaf(api.LineFew)}, 2, api.ErrProof},
		{"a branch of a branch ahead of the next branch", []api.LineNode{split(4, 2, 1, 1), leaf(7), split(3, 3, 3, 3), leaf(8)}, 3, api.ErrKind},
		{"a node that holds at its first place only", deep, 5, api.ErrProof},
		// What does not hold.
		{"few", with(1, leaf(api.LineFew)), 1, api.ErrProof},
		{"many", with(3, leaf(api.LineMany)), 3, api.ErrProof},
		{"long", with(2, leaf(api.LineLong)), 2, api.ErrProof},
		{"short at the root", []api.LineNode{leaf(api.LineShort)}, 0, api.ErrProof},
		{"the modulus 40", with(3, modulus(40)), 3, api.ErrProof},
		{"the modulus 400", with(3, modulus(400)), 3, api.ErrProof},
		{"the modulus 1", with(3, modulus(1)), 3, api.ErrProof},
		{"the modulus 0", with(3, modulus(0)), 3, api.ErrProof},
		{"the modulus -200", with(3, modulus(-200)), 3, api.ErrProof},
		{"a great modulus", with(3, modulus(1<<63-1)), 3, api.ErrProof},
		{"the modulus 200 while thin is not decided", []api.LineNode{modulus(200)}, 0, api.ErrProof},
	} {
		if at, e := line.CheckRefusal(second(), c.tree); at != c.at || e != c.e {
			t.Errorf("CheckRefusal, %s: %d, error %d, want %d, error %d", c.what, at, e, c.at, c.e)
		}
	}
}

// P3.3: when each kind of leaves just holds, and just does not: for a root, and for spaces that are
// decided.
func TestLeaves(t *testing.T) {
	for _, c := range []struct {
		what string
		task api.LineTask
		leaf api.LineNode
		e    api.Errno
	}{
		{"3 spaces for 4 gaps", filling(100, 5, spaced(10, 20), 1, 2), leaf(api.LineFew), api.OK},
		{"4 spaces for 4 gaps", filling(101, 5, spaced(10, 20), 2, 2), leaf(api.LineFew), api.ErrProof},
		{"spaces that are too wide", filling(29, 5, spaced(10, 20, 30), 2, 1, 9), leaf(api.LineFew), api.OK},
		{"none decided", filling(100, 1, spaced(10), 5), leaf(api.LineMany), api.ErrProof},
		{"six of 20 for 121", filling(121, 3, spaced(10, 20), 9, 9), leaf(api.LineShort), api.OK},
		{"six of 20 for 120", filling(120, 3, spaced(10, 20), 9, 9), leaf(api.LineShort), api.ErrProof},
		{"four of 20, two of 10 for 101", filling(101, 3, spaced(10, 20), 9, 4), leaf(api.LineShort), api.OK},
		{"four of 20, two of 10 for 99", filling(99, 3, spaced(10, 20), 9, 4), leaf(api.LineShort), api.ErrProof},
		{"all four for 61", filling(61, 3, spaced(10, 20), 2, 2), leaf(api.LineShort), api.OK},
		{"all four for 60", filling(60, 3, spaced(10, 20), 2, 2), leaf(api.LineShort), api.ErrProof},
		{"one word that does not fit", filling(1, 1, spaced(10), 2), leaf(api.LineShort), api.OK},
		{"10 and 15 for 19", filling(19, 3, spaced(10, 15), 9, 9), leaf(api.LineLong), api.OK},
		{"10 and 10 for 20", filling(20, 3, spaced(10, 15), 9, 9), leaf(api.LineLong), api.ErrProof},
		{"one of 10, one of 20 for 29", filling(29, 3, spaced(10, 20), 1, 9), leaf(api.LineLong), api.OK},
		{"one of 10, one of 20 for 31", filling(31, 3, spaced(10, 20), 1, 9), leaf(api.LineLong), api.ErrProof},
		{"three spaces, four gaps, not too wide", filling(45, 5, spaced(10, 20), 1, 2), leaf(api.LineLong), api.OK},
		{"three spaces, four gaps, narrow", filling(50, 5, spaced(10, 20), 1, 2), leaf(api.LineLong), api.ErrProof},
		{"10 and 20 for 25", filling(25, 2, spaced(10, 20), 9, 9), modulus(10), api.OK},
		{"10 and 20 for 25, by 5", filling(25, 2, spaced(10, 20), 9, 9), modulus(5), api.ErrProof},
		{"10 and 15 for 24", filling(24, 2, spaced(10, 15), 9, 9), modulus(10), api.ErrProof},
		{"a width too wide counts, too", filling(25, 2, spaced(10, 35), 9, 9), modulus(10), api.ErrProof},
		{"a space of which there are none counts, too", filling(25, 2, spaced(10, 15), 9, 0), modulus(10), api.ErrProof},
		{"no spaces", filling(25, 2, spaced()), modulus(10), api.OK},
		{"no spaces, a multiple", filling(20, 2, spaced()), modulus(10), api.ErrProof},
		{"nothing is a multiple", filling(0, 2, spaced(10), 9), modulus(10), api.ErrProof},
	} {
		if at, e := line.CheckRefusal(c.task, []api.LineNode{c.leaf}); at != 0 || e != c.e {
			t.Errorf("CheckRefusal, %s: %d, error %d, want %d", c.what, at, e, c.e)
		}
	}
}

// naive is a checker of refusals that follows the definitions: at a leaf it looks at all spaces that
// may be taken beside those that are decided.
type naive struct {
	room
	fount api.Fount
	mosts []int
	tree  []api.LineNode
	// held counts the leaves that did not hold, and those that held, of each kind.
	held map[int]*[2]int
}

const open = -1

// check begins at a node with the counts of the spaces that are decided; others are open.
func (c naive) check(at int, decided []int) (int, api.Errno) {
	node := c.tree[at]
	switch node.Kind {
	case api.LineSplit:
		if e := c.errorOfSplit(at, decided); e != api.OK {
			return at, e
		}
	case api.LineFew, api.LineMany, api.LineShort, api.LineLong, api.LineModulus:
		if !c.holds(node, decided) {
			c.held[node.Kind][0]++
			return at, api.ErrProof
		}
		c.held[node.Kind][1]++
		return 0, api.OK
	default:
		return at, api.ErrKind
	}
	for count, next := range node.Next {
		below := slices.Clone(decided)
		below[node.Sort] = count
		if at, e := c.check(next, below); e != api.OK {
			return at, e
		}
	}
	return 0, api.OK
}

func (c naive) errorOfSplit(at int, decided []int) api.Errno {
	node := c.tree[at]
	switch {
	case node.Sort < 0 || node.Sort >= len(decided) || !isSpace(c.fount, node.Sort):
		return api.ErrMissing
	case decided[node.Sort] != open:
		return api.ErrExists
	case len(node.Next) != c.mosts[node.Sort]+1:
		return api.ErrShape
	}
	for _, next := range node.Next {
		if next < 0 || next >= len(c.tree) {
			return api.ErrMissing
		}
		if next <= at {
			return api.ErrOrder
		}
	}
	return api.OK
}

func (c naive) holds(node api.LineNode, decided []int) bool {
	number, width, more, others := 0, 0, 0, slices.Clone(c.mosts)
	multiples := true
	for sort, s := range c.fount.Sorts {
		switch {
		case s.Kind != api.SortSpace:
		case decided[sort] == open:
			more += c.mosts[sort]
			multiples = multiples && node.Modulus >= 2 && s.Width%node.Modulus == 0
		default:
			number += decided[sort]
			width += decided[sort] * s.Width
			others[sort] = 0
		}
	}
	widest, narrowest := 0, 1<<62
	eachCount(others, func(counts []int) {
		w := widthOf(c.fount, rowOf(counts))
		if sum(counts) <= max(3*c.gaps-number, 0) {
			widest = max(widest, w)
		}
		if sum(counts) == min(max(c.gaps-number, 0), more) {
			narrowest = min(narrowest, w)
		}
	})
	return [...]bool{
		api.LineFew:     number+more < c.gaps,
		api.LineMany:    number > 3*c.gaps,
		api.LineShort:   width+widest < c.fill,
		api.LineLong:    width+narrowest > c.fill,
		api.LineModulus: node.Modulus >= 2 && multiples && (c.fill-width)%node.Modulus != 0,
	}[node.Kind]
}

// whole makes a tree that splits spaces in some order, with leaves most of which hold.
func (m maker) whole(c naive) []api.LineNode {
	var spaces []int
	for _, sort := range m.Perm(len(c.mosts)) {
		if isSpace(c.fount, sort) && m.Intn(6) > 0 {
			spaces = append(spaces, sort)
		}
	}
	var tree []api.LineNode
	var grow func(spaces, decided []int) int
	grow = func(spaces, decided []int) int {
		at := len(tree)
		if len(spaces) == 0 || at > 0 && m.Intn(6) == 0 {
			tree = append(tree, m.holding(c, decided))
			return at
		}
		tree = append(tree, split(spaces[0]))
		for count := range c.mosts[spaces[0]] + 1 {
			below := slices.Clone(decided)
			below[spaces[0]] = count
			next := grow(spaces[1:], below)
			tree[at].Next = append(tree[at].Next, next)
		}
		return at
	}
	grow(spaces, nothing(c.mosts))
	return tree
}

// holding makes a leaf that holds, if it finds one, but not always.
func (m maker) holding(c naive, decided []int) api.LineNode {
	leaf := m.leaf()
	for range m.Intn(40) {
		if c.holds(leaf, decided) {
			break
		}
		leaf = m.leaf()
	}
	return leaf
}

// nothing is decided.
func nothing(mosts []int) []int {
	return slices.Repeat([]int{open}, len(mosts))
}

func (m maker) leaf() api.LineNode {
	return api.LineNode{Kind: 1 + m.Intn(5), Modulus: m.Intn(7)}
}

// spoilt changes a node of a tree.
func (m maker) spoilt(tree []api.LineNode) []api.LineNode {
	tree = slices.Clone(tree)
	node := &tree[m.Intn(len(tree))]
	switch m.Intn(4) {
	case 0:
		*node = m.leaf()
	case 1:
		node.Sort = m.Intn(7) - 1
	case 2:
		node.Kind = m.Intn(8) - 1
	case 3:
		node.Next = slices.Clone(node.Next)
		if len(node.Next) > 0 {
			node.Next[m.Intn(len(node.Next))] = m.Intn(len(tree)+2) - 1
		}
	}
	return tree
}

// P3.3: trees are accepted, or not, as the definitions say.
func TestRefusalsAreChecked(t *testing.T) {
	m := newMaker(7)
	held := map[int]*[2]int{}
	for kind := range api.LineModulus + 1 {
		held[kind] = &[2]int{}
	}
	for range 6000 {
		task := m.task()
		r, e := roomOf(task)
		if n, _ := line.Ways(task); e != api.OK || n > 200 {
			continue
		}
		c := naive{room: r, fount: task.Fount, mosts: r.mosts(task.Fount), held: held}
		trees := [][]api.LineNode{m.whole(c), {m.leaf()}}
		if tree, e := line.Refuse(task); e == api.OK {
			trees = append(trees, tree, m.spoilt(tree), m.spoilt(m.spoilt(tree)))
		}
		trees = append(trees, m.spoilt(trees[0]))
		for _, c.tree = range trees {
			wantAt, want := c.check(0, nothing(c.mosts))
			if at, e := line.CheckRefusal(task, c.tree); at != wantAt || e != want {
				t.Fatalf("CheckRefusal of %v, %v: %d, error %d, want %d, error %d", task, c.tree, at, e, wantAt, want)
			}
		}
	}
	for kind := api.LineFew; kind <= api.LineModulus; kind++ {
		if held[kind][0] < 100 || held[kind][1] < 100 {
			t.Errorf("of the kind %d only %v leaves did not hold, and held", kind, *held[kind])
		}
	}
}

// P3.3, P3.7: with few ways there is a choice, or a refusal that is accepted, never both.
func TestChoiceOrRefusal(t *testing.T) {
	m := newMaker(8)
	choices, refusals := 0, 0
	for range 4000 {
		task := m.task()
		ways, e := line.Ways(task)
		if e != api.OK || ways > 3000 {
			continue
		}
		_, choice := line.Choose(task)
		tree, refusal := line.Refuse(task)
		switch {
		case choice == api.OK && refusal == api.ErrState && len(tree) == 0:
			choices++
		case choice == api.ErrNone && refusal == api.OK:
			refusals++
			checkRefusal(t, task, tree)
		default:
			t.Errorf("%v: Choose: %d, Refuse: %v, %d", task, choice, tree, refusal)
		}
	}
	if choices < 500 || refusals < 500 {
		t.Errorf("only %d choices and %d refusals", choices, refusals)
	}
}

func checkRefusal(t *testing.T, task api.LineTask, tree []api.LineNode) {
	t.Helper()
	if at, e := line.CheckRefusal(task, tree); at != 0 || e != api.OK || len(tree) < 1 || len(tree) > 6000 {
		t.Errorf("CheckRefusal of %v, %d nodes: %d, error %d", task, len(tree), at, e)
	}
}

// P3.3: refusals with almost as many ways as are looked at.
func TestGreatRefusals(t *testing.T) {
	for _, c := range []struct {
		fill   int
		widths []int
		counts []int
	}{
		{1999, []int{100, 102, 104, 106, 108, 110, 112}, []int{2, 2, 2, 2, 2, 2, 3}},
		{1999, []int{100, 102, 104, 106, 108, 110, 113, 114}, []int{2, 2, 2, 2, 2, 3, 0, 2}},
		{1001, []int{100, 103, 106, 109, 112, 115, 118}, []int{2, 2, 2, 2, 2, 3, 2}},
		{1093, []int{1, 3, 9, 27, 81, 243, 729}, []int{2, 2, 2, 2, 2, 2, 2}},
		{1093, []int{729, 243, 81, 27, 9, 3, 1, 5}, []int{2, 2, 2, 2, 2, 2, 2, 0}},
		// Splits on spaces of which there are none would be too many nodes.
		{1500, []int{1, 50, 60, 61, 62, 63, 64, 1500}, []int{49, 29, 0, 0, 0, 0, 0, 1}},
		{1500, []int{30, 31}, []int{52, 53}},
		{1501, []int{60, 35}, []int{52, 53}},
	} {
		refused := 0
		for fill := c.fill - 40; fill < c.fill+40; fill += 3 {
			for _, words := range []int{2, 3, 4, 6, 9, 20, 30} {
				task := filling(fill, words, spaced(c.widths...), c.counts...)
				ways, _ := line.Ways(task)
				if tree, e := line.Refuse(task); e == api.OK {
					refused++
					checkRefusal(t, task, tree)
				} else if e != api.ErrState && (e != api.ErrLarge || ways <= 3000) {
					t.Errorf("Refuse of %d by %v: error %d", fill, c.widths, e)
				}
			}
		}
		if refused == 0 {
			t.Errorf("nothing was refused of %v", c.widths)
		}
	}
}

// P3.7: where a refusal is accepted, no line is accepted.
func TestNoLine(t *testing.T) {
	task := changed(second(), func(t *api.LineTask) { t.Words = [][]int{{0}, {1}}; t.Measure = 990 })
	tree, e := line.Refuse(task)
	if at, e2 := line.CheckRefusal(task, tree); e != api.OK || at != 0 || e2 != api.OK {
		t.Fatalf("Refuse: %v, error %d, checked: %d, error %d", tree, e, at, e2)
	}
	for length := range 7 {
		eachCount(slices.Repeat([]int{4}, length), func(sorts []int) {
			if e := line.CheckLine(task, lineOf(990, sorts...)); e == api.OK {
				t.Errorf("CheckLine accepts %v", sorts)
			}
		})
	}
}
