package recipe

import "strings"

const (
	blank  = " "
	quote  = '"'
	escape = '\\'
	signs  = `\"nt`     // what may stand behind a \ in quotes
	values = "\\\"\n\t" // what these stand for, at the same places
)

// split: the words of a line. False: they are not of the form.
func split(line string) ([]string, bool) {
	var l []string
	for {
		line = strings.TrimLeft(line, blank)
		if line == "" {
			return l, true
		}
		read := plain
		if line[0] == quote {
			read = quoted
		}
		word, behind, ok := read(line)
		if !ok {
			return nil, false
		}
		l = append(l, word)
		line = behind
	}
}

// plain: the word without quotes that a text begins with, and what is behind it.
func plain(s string) (string, string, bool) {
	word, _, _ := strings.Cut(s, blank)
	return word, s[len(word):], strings.IndexByte(word, quote) < 0 && strings.IndexByte(word, escape) < 0
}

// quoted: what the word in quotes that a text begins with stands for, and what is behind it.
func quoted(s string) (string, string, bool) {
	var word []byte
	for i := 1; i < len(s); i++ {
		c := s[i]
		if c == quote {
			behind := s[i+1:]
			return string(word), behind, behind == "" || strings.HasPrefix(behind, blank)
		}
		if c == escape {
			i++
			if c = value(s[i:]); c == 0 {
				return "", "", false
			}
		}
		word = append(word, c)
	}
	return "", "", false
}

// value: what the first byte behind a \ stands for; 0: it can't stand there, or there is none.
func value(behind string) byte {
	if behind == "" {
		return 0
	}
	place := strings.IndexByte(signs, behind[0])
	if place < 0 {
		return 0
	}
	return values[place]
}
