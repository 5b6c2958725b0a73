package shop

import (
	"strconv"
	"strings"

	"tympan/api"
)

const (
	checkFactor = 259
	checkPrime  = 999999929
)

// checkBehind returns the check of an entry behind one with another check.
func checkBehind(before int, entry string) int {
	check := before
	for i := range len(entry) {
		check = (checkFactor*check + int(entry[i]) + 1) % checkPrime
	}
	return check
}

// Journal: see the chapter.
func Journal(log []string) (string, api.Errno) {
	if len(log) > api.MaxShopLog {
		return "", api.ErrLarge
	}
	var journal strings.Builder
	check := 0
	for _, entry := range log {
		if len(entry) > api.MaxShopEntry {
			return "", api.ErrLarge
		}
		if strings.Contains(entry, "\n") {
			return "", api.ErrSyntax
		}
		check = checkBehind(check, entry)
		journal.WriteString(strconv.Itoa(check) + " " + entry + "\n")
	}
	return journal.String(), api.OK
}

// Recover: see the chapter.
func Recover(text string) ([]string, int) {
	var log []string
	check, read := 0, 0
	for len(log) < api.MaxShopLog {
		line, _, isWhole := strings.Cut(text[read:], "\n")
		_, entry, _ := strings.Cut(line, " ")
		if !isWhole || len(entry) > api.MaxShopEntry {
			break
		}
		check = checkBehind(check, entry)
		if line != strconv.Itoa(check)+" "+entry {
			break
		}
		log = append(log, strings.Clone(entry))
		read += len(line) + 1
	}
	return log, read
}
