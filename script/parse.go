package script

import (
	"strconv"
	"strings"

	"seiche/api"
)

// command is a line of a script: its word, its numbers, and its texts.
type command struct {
	word    string
	numbers []int
	texts   []string
}

// parse: a script's commands; and the number of the first line that is none, or one too many, or 0.
func parse(script string) ([]command, int) {
	var list []command
	for i, line := range strings.Split(script, "\n") {
		if line == "" {
			continue
		}
		c, ok := read(line)
		if !ok || len(list) == api.MaxSteps {
			return nil, i + 1
		}
		list = append(list, c)
	}
	return list, 0
}

// read: the command that a line is; false: it is none.
func read(line string) (command, bool) {
	words := strings.Split(line, " ")
	numbers, texts := shape(words[0])
	if numbers < 0 || len(words) != 1+numbers+texts {
		return command{}, false
	}
	c := command{word: words[0], texts: words[1+numbers:]}
	for _, x := range words[1 : 1+numbers] {
		n, ok := number(x)
		if !ok {
			return command{}, false
		}
		c.numbers = append(c.numbers, n)
	}
	return c, true
}

// shape: how many numbers, and how many texts, stand behind a word; -1: it is none of a command.
func shape(word string) (int, int) {
	switch word {
	case "counts", "compact", "sync":
		return 0, 0
	case "gone", "commit", "tag":
		return 0, 1
	case "file":
		return 0, 2
	case "faults", "evict":
		return 1, 0
	case "world", "analyze", "crash":
		return 2, 0
	case "config":
		return 2, 2
	case "arm":
		return 3, 0
	case "why":
		return 3, 1
	}
	return -1, 0
}

// number: the number that a word is; false: it is none, or isn't written as it must be.
func number(s string) (int, bool) {
	n, err := strconv.Atoi(s)
	return n, err == nil && strconv.Itoa(n) == s
}
