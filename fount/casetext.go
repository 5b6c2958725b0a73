package fount

import (
	"strconv"
	"strings"

	"tympan/api"
)

// FormatCase: see the chapter.
func FormatCase(f api.Fount, counts []int) (string, api.Errno) {
	if e := errorOfCounts(f, counts); e != api.OK {
		return "", e
	}
	var b strings.Builder
	for i, n := range counts {
		if n == 0 {
			continue
		}
		if b.Len() > 0 {
			b.WriteByte(' ')
		}
		b.WriteString(f.Sorts[i].Name + " " + strconv.Itoa(n))
	}
	return b.String(), api.OK
}

// ParseCase: see the chapter.
func ParseCase(f api.Fount, s string) ([]int, api.Errno) {
	k, _, e := learn(f)
	if e != api.OK {
		return nil, e
	}
	counts := make([]int, len(f.Sorts))
	if s == "" {
		return counts, api.OK
	}
	words := strings.Split(s, " ")
	if !arePairs(words) {
		return nil, api.ErrSyntax
	}
	last := -1
	for i := 0; i < len(words); i += 2 {
		sort, n, e := k.readPair(words[i], words[i+1], last)
		if e != api.OK {
			return nil, e
		}
		counts[sort] = n
		last = sort
	}
	return counts, api.OK
}

func arePairs(words []string) bool {
	for _, w := range words {
		if w == "" {
			return false
		}
	}
	return len(words)%2 == 0
}

// readPair returns the number of a sort, which must be behind the last one, and how many of it
// there are.
func (k known) readPair(name, count string, last int) (int, int, api.Errno) {
	sort, e := numberIn(k.names, name)
	if e != api.OK {
		return 0, 0, e
	}
	if sort <= last {
		return 0, 0, api.ErrOrder
	}
	n, ok := numberOf(count)
	if !ok {
		return 0, 0, api.ErrSyntax
	}
	if n < 1 || n > api.MaxCount {
		return 0, 0, api.ErrRange
	}
	return sort, n, api.OK
}
