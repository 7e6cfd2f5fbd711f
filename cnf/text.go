package cnf

import (
	"strconv"
	"strings"

	"skua/api"
)

// last ends each clause of a text.
const last = "0"

// Show is clauses as a text.
func Show(l [][]int) (string, api.Errno) {
	if e := Check(l); e != api.OK {
		return "", e
	}
	var text strings.Builder
	for _, c := range l {
		for _, n := range c {
			text.WriteString(strconv.Itoa(n))
			text.WriteByte(' ')
		}
		text.WriteString(last)
		text.WriteByte('\n')
	}
	return text.String(), api.OK
}

// Read is the clauses of a text.
func Read(s string) ([][]int, api.Errno) {
	var l [][]int
	for s != "" {
		line, rest, ended := strings.Cut(s, "\n")
		c, ok := clause(line)
		if !ended || !ok {
			return nil, api.ErrCnfForm
		}
		l = append(l, c)
		s = rest
	}
	return l, api.OK
}

// clause is the clause of a line.
func clause(line string) ([]int, bool) {
	words, ok := strings.CutSuffix(line, last)
	if !ok {
		return nil, false
	}
	var c []int
	for words != "" {
		word, rest, ended := strings.Cut(words, " ")
		n, ok := literal(word)
		if !ended || !ok {
			return nil, false
		}
		c = append(c, n)
		words = rest
	}
	return c, true
}

// literal is the literal of a word: none but the one that Show tells so.
func literal(word string) (int, bool) {
	n, err := strconv.Atoi(word)
	if err != nil || !may(n) || strconv.Itoa(n) != word {
		return 0, false
	}
	return n, true
}
