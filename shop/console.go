package shop

import (
	"slices"
	"strconv"
	"strings"

	"tympan/api"
)

// Do: see the chapter.
func Do(s api.ShopSetup, log []string, line string) ([]string, string) {
	behind, _, e := shopBehind(s, log)
	if e != api.OK {
		return nil, errorText(e)
	}
	longer, written, e := behind.do(log, line)
	if e != api.OK {
		return slices.Clone(log), errorText(e)
	}
	return longer, written
}

func errorText(e api.Errno) string {
	return "error " + strconv.Itoa(int(e))
}

// do returns the log behind a line of the console, and what is written.
func (s *shop) do(log []string, line string) ([]string, string, api.Errno) {
	if entry, isEntry := strings.CutPrefix(line, "do "); isEntry {
		longer, e := s.accept(log, entry)
		return longer, strconv.Itoa(len(longer)), e
	}
	written, e := s.answer(log, line)
	return slices.Clone(log), written, e
}

// answer returns what is written for a line that leaves the log as it is.
func (s *shop) answer(log []string, line string) (string, api.Errno) {
	if line == "journal" {
		journal, e := Journal(log)
		return strconv.Itoa(len(journal)), e
	}
	command, rest, hasRest := strings.Cut(line, " ")
	if !hasRest {
		return "", api.ErrSyntax
	}
	var words []string
	var e api.Errno
	switch command {
	case "where":
		words, e = s.whereWords(rest)
	case "read":
		words, e = s.readPage(rest)
	case "copy":
		words, e = s.copyOf(rest)
	case "query":
		words, e = s.queryWords(rest)
	default:
		e = api.ErrSyntax
	}
	return strings.Join(words, " "), e
}

func (s *shop) whereWords(sort string) ([]string, api.Errno) {
	where, e := s.whereIs(sort)
	var words []string
	for _, n := range where {
		words = append(words, strconv.Itoa(n))
	}
	return words, e
}

func (s *shop) queryWords(q string) ([]string, api.Errno) {
	names, e := s.query(q)
	if len(names) == 0 {
		return []string{"none"}, e
	}
	return names, e
}
