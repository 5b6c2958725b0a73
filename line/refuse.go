package line

import (
	"slices"

	"tympan/api"
)

// Ways: see the chapter.
func Ways(t api.LineTask) (int, api.Errno) {
	r, e := roomOf(t)
	if e != api.OK {
		return 0, e
	}
	return waysOf(r.spaces(t.Fount)), api.OK
}

// spaces returns the spaces of a task, each with its most.
func (r room) spaces(f api.Fount) []space {
	return spacesFor(f, r.left, r.gapSpaces().Hi, r.fill)
}

func waysOf(spaces []space) int {
	ways := 1
	for _, s := range spaces {
		ways = min(ways*(s.most+1), api.MaxLineWays+1)
	}
	return ways
}

// refusal is the nodes of a refusal, and where in it we are: the spaces that are decided there, with
// their counts.
type refusal struct {
	room    room
	spaces  []space
	nodes   []api.LineNode
	decided map[space]int
}

// refusalOf returns a refusal with these nodes at its root, or the errors of the fill and of many
// ways.
func refusalOf(t api.LineTask, nodes []api.LineNode) (*refusal, api.Errno) {
	room, e := roomOf(t)
	if e != api.OK {
		return nil, e
	}
	spaces := narrowestFirst(room.spaces(t.Fount))
	if waysOf(spaces) > api.MaxLineWays {
		return nil, api.ErrLarge
	}
	return &refusal{room: room, spaces: spaces, nodes: nodes, decided: map[space]int{}}, api.OK
}

// taken returns how many spaces are decided, and their width.
func (r *refusal) taken() (int, int) {
	number, width := 0, 0
	for s, count := range r.decided {
		number += count
		width += count * s.width
	}
	return number, width
}

// open returns the spaces that are not decided.
func (r *refusal) open() []space {
	var open []space
	for _, s := range r.spaces {
		if _, ok := r.decided[s]; !ok {
			open = append(open, s)
		}
	}
	return open
}

// holds tells whether a leaf holds here.
func (r *refusal) holds(leaf api.LineNode) bool {
	number, width := r.taken()
	open := r.open()
	widths, many := widthsOf(open), r.room.gapSpaces()
	more := len(widths) - 1
	switch leaf.Kind {
	case api.LineFew:
		return number+more < many.Lo
	case api.LineMany:
		return number > many.Hi
	case api.LineShort:
		return width+widths[min(max(many.Hi-number, 0), more)].Hi < r.room.fill
	case api.LineLong:
		return width+widths[min(max(many.Lo-number, 0), more)].Lo > r.room.fill
	case api.LineModulus:
		return areMultiples(open, leaf.Modulus) && (r.room.fill-width)%leaf.Modulus != 0
	}
	return false
}

// areMultiples tells whether the widths of spaces are multiples of a modulus of 2 or more.
func areMultiples(spaces []space, modulus int) bool {
	return modulus >= 2 && !slices.ContainsFunc(spaces, func(s space) bool { return s.width%modulus != 0 })
}

// Refuse: see the chapter.
func Refuse(t api.LineTask) ([]api.LineNode, api.Errno) {
	r, e := refusalOf(t, nil)
	if e != api.OK {
		return nil, e
	}
	if _, e := r.room.choose(t.Fount); e == api.OK {
		return nil, api.ErrState
	}
	r.grow()
	return r.nodes, api.OK
}

// grow adds the node for where we are, with all below it, and returns its number. There is no choice,
// so a leaf holds at the latest when no space is left of which there may be any. As only the others
// are split, there are fewer splits than leaves, and not more leaves than ways.
func (r *refusal) grow() int {
	at := len(r.nodes)
	if leaf, ok := r.leaf(); ok {
		r.nodes = append(r.nodes, leaf)
		return at
	}
	open := r.open()
	s := open[slices.IndexFunc(open, func(s space) bool { return s.most > 0 })]
	r.nodes = append(r.nodes, api.LineNode{Kind: api.LineSplit, Sort: s.sort})
	var next []int
	for count := range s.most + 1 {
		r.decided[s] = count
		next = append(next, r.grow())
	}
	delete(r.decided, s)
	r.nodes[at].Next = next
	return at
}

// leaf returns a leaf that holds here, if there is one.
func (r *refusal) leaf() (api.LineNode, bool) {
	var widths []int
	for _, s := range r.open() {
		widths = append(widths, s.width)
	}
	for _, leaf := range []api.LineNode{
		{Kind: api.LineFew},
		{Kind: api.LineMany},
		{Kind: api.LineLong},
		// What is no multiple of some modulus is none of the greatest one either.
		{Kind: api.LineModulus, Modulus: divisorOf(widths...)},
		{Kind: api.LineShort},
	} {
		if r.holds(leaf) {
			return leaf, true
		}
	}
	return api.LineNode{}, false
}

// CheckRefusal: see the chapter.
func CheckRefusal(t api.LineTask, tree []api.LineNode) (int, api.Errno) {
	r, e := refusalOf(t, tree)
	if e != api.OK {
		return 0, e
	}
	if len(tree) < 1 || len(tree) > api.MaxLineNodes {
		return 0, api.ErrShape
	}
	return r.check(0)
}

// check returns the first error of a node and all below it, with the number of its node. However
// often nodes are named, each path of a tree without errors decides other counts: so there are not
// more paths than ways.
func (r *refusal) check(at int) (int, api.Errno) {
	node := r.nodes[at]
	if node.Kind != api.LineSplit {
		return r.checkLeaf(at)
	}
	s, e := r.splitSpace(node.Sort)
	if e != api.OK {
		return at, e
	}
	if e := r.errorOfNext(at, s); e != api.OK {
		return at, e
	}
	for count, next := range node.Next {
		r.decided[s] = count
		if at, e := r.check(next); e != api.OK {
			return at, e
		}
	}
	delete(r.decided, s)
	return 0, api.OK
}

func (r *refusal) checkLeaf(at int) (int, api.Errno) {
	if kind := r.nodes[at].Kind; kind < api.LineFew || kind > api.LineModulus {
		return at, api.ErrKind
	}
	if !r.holds(r.nodes[at]) {
		return at, api.ErrProof
	}
	return 0, api.OK
}

// splitSpace returns the space of a sort, which must not be decided.
func (r *refusal) splitSpace(sort int) (space, api.Errno) {
	i := slices.IndexFunc(r.spaces, func(s space) bool { return s.sort == sort })
	if i < 0 {
		return space{}, api.ErrMissing
	}
	if _, ok := r.decided[r.spaces[i]]; ok {
		return space{}, api.ErrExists
	}
	return r.spaces[i], api.OK
}

// errorOfNext tells what is wrong with the branches of a split on a space.
func (r *refusal) errorOfNext(at int, s space) api.Errno {
	next := r.nodes[at].Next
	if len(next) != s.most+1 {
		return api.ErrShape
	}
	for _, to := range next {
		if to < 0 || to >= len(r.nodes) {
			return api.ErrMissing
		}
		if to <= at {
			return api.ErrOrder
		}
	}
	return api.OK
}
