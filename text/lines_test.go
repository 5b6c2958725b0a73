package text_test

import (
	"slices"
	"strings"
	"testing"

	"tympan/api"
	"tympan/text"
)

// typeLines makes lines of sorts, and which of them are broken: those that end with a -1, which is
// left out.
func typeLines(sorts ...[]int) ([]api.TypeLine, []bool) {
	var lines []api.TypeLine
	var broken []bool
	for _, l := range sorts {
		n := len(l)
		isBroken := n > 0 && l[n-1] == -1
		if isBroken {
			n--
		}
		lines = append(lines, api.TypeLine{Measure: 7, Sorts: l[:n]})
		broken = append(broken, isBroken)
	}
	return lines, broken
}

// P2.6: lines of type are read back.
func TestReadBack(t *testing.T) {
	long := slices.Repeat([]int{10}, 300)
	for _, c := range []struct {
		lines [][]int
		words []string
	}{
		{nil, nil},
		{[][]int{{}}, nil},
		{[][]int{{12, 12}, {}, {12}}, nil},
		{[][]int{{0, 1, 7, -1}, {9, 0, 12, 3}}, []string{"effie", "l"}},
		{[][]int{{0, 1, 7}, {9, 0, 12, 3}}, []string{"ef-", "fie", "l"}},
		{[][]int{{12, 0, 12, 12, 8, 2, 12}, {12, 3}}, []string{"e", "ffi", "l"}},
		{[][]int{{0}, {}, {1}}, []string{"e", "f"}},
		{[][]int{{0, 12, 1, 7, 4, 7, -1}, {2, 12, 3, 7, -1}, {5}}, []string{"e", "f-ui", "ls"}},
		// A word over three lines.
		{[][]int{{0, 7, -1}, {1, 7, -1}, {2, 12}}, []string{"efi"}},
		{[][]int{{0, 7, -1}, {7, -1}, {2}}, []string{"ei"}},
		// What stands ahead of the "-".
		{[][]int{{0, 12, 7, -1}, {1}}, []string{"e", "f"}},
		{[][]int{{7, -1}, {1, 12, 2}}, []string{"f", "i"}},
		{[][]int{{0, 7, 7, -1}, {7}}, []string{"e--"}},
		{[][]int{{12, 7, -1}, {7, -1}, {7}}, []string{"-"}},
		{[][]int{long, long, append(slices.Clone(long[1:]), 7, -1), {0}}, []string{strings.Repeat("ffi", 300), strings.Repeat("ffi", 300), strings.Repeat("ffi", 299) + "e"}},
		{slices.Repeat([][]int{{0}}, 400), slices.Repeat([]string{"e"}, 400)},
	} {
		lines, broken := typeLines(c.lines...)
		if l, e := text.ReadBack(office(), lines, broken); e != api.OK || !slices.Equal(l, c.words) {
			t.Errorf("ReadBack of %v, %v: %q, error %d, want %q", lines, broken, l, e, c.words)
		}
	}
}

func TestReadBackErrors(t *testing.T) {
	f := office()
	f.Sorts[11].Text = "--"
	long := slices.Repeat([]int{0}, 301)
	for _, c := range []struct {
		lines [][]int
		e     api.Errno
	}{
		{slices.Repeat([][]int{{99}}, 401), api.ErrLarge},
		{[][]int{{0}, long, {99}}, api.ErrLarge},
		{[][]int{append(long[:len(long):len(long)], 99)}, api.ErrLarge},
		{[][]int{{0}, {1, 13}}, api.ErrMissing},
		{[][]int{{-2}, long}, api.ErrMissing},
		{[][]int{{0, 1<<63 - 1, -1}}, api.ErrMissing},
		{[][]int{{13, 7, -1}}, api.ErrMissing},
		// Broken lines that do not end with "-".
		{[][]int{{0, 1, -1}, {0}}, api.ErrForm},
		{[][]int{{-1}, {0}}, api.ErrForm},
		{[][]int{{0, 7, 12, -1}, {0}}, api.ErrForm},
		{[][]int{{0, 11, -1}, {0}}, api.ErrForm},
		{[][]int{{0, 1, -1}}, api.ErrForm},
		{[][]int{{0, 1, -1}, {12}}, api.ErrForm},
		// Broken lines behind which no word goes on.
		{[][]int{{0, 7, -1}}, api.ErrOpen},
		{[][]int{{0}, {0, 7, -1}}, api.ErrOpen},
		{[][]int{{0, 7, -1}, {}}, api.ErrOpen},
		{[][]int{{0, 7, -1}, {-1}}, api.ErrOpen},
		{[][]int{{0, 7, -1}, {12, 0}}, api.ErrOpen},
		{[][]int{{0, 7, -1}, {13}}, api.ErrOpen},
		{[][]int{{0, 7, -1}, {-2}}, api.ErrOpen},
		{[][]int{{12, 7, -1}, {12}}, api.ErrOpen},
		// Line by line.
		{[][]int{{0, 7, -1}, {0, 13}}, api.ErrMissing},
		{[][]int{{0, 7, -1}, long}, api.ErrLarge},
		{[][]int{{0, 1, -1}, {13}}, api.ErrForm},
	} {
		lines, broken := typeLines(c.lines...)
		if l, e := text.ReadBack(f, lines, broken); e != c.e || len(l) != 0 {
			t.Errorf("ReadBack of %v, %v: %q, error %d, want %d", lines[:min(len(lines), 3)], broken[:min(len(broken), 3)], l, e, c.e)
		}
	}
	lines, broken := typeLines(slices.Repeat([][]int{{0}}, 401)...)
	for _, n := range []int{0, 400} {
		if l, e := text.ReadBack(f, lines, broken[:n]); e != api.ErrShape || len(l) != 0 {
			t.Errorf("ReadBack of 401 lines, %d of them said to be broken or not: %q, error %d", n, l, e)
		}
	}
	if l, e := text.ReadBack(f, nil, []bool{false}); e != api.ErrShape || len(l) != 0 {
		t.Errorf("ReadBack of no line, said to be whole: %q, error %d", l, e)
	}
}
