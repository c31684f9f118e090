package lex

import (
	"slices"
	"strings"
	"testing"
)

// 15.2

// TestKeys has the eight names.
func TestKeys(t *testing.T) {
	for _, name := range []string{"var", "arr", "if", "else", "while", "out", "in", "exit"} {
		if !Key(name) {
			t.Errorf("Key(%q) = false", name)
		}
	}
}

// TestNoKeys has texts that are none of the names.
func TestNoKeys(t *testing.T) {
	for _, name := range []string{
		"", " ", "\n", "\x00", "0", "1", "a", "i", "n", "=", "==", ";", "{", "name", "abcdefgh", "abcdefghi",
		"int", "for", "do", "end", "let", "fi", "ni", "rav", "vararr", "ifelse", "elseif", "inout", "outin", "varvar", "whilewhile",
		"var arr", "if else", "var,arr", "ValueOf", "é", "ıf", "\xff", "true", "false", "return", "func", "goto",
	} {
		if Key(name) {
			t.Errorf("Key(%q) = true", name)
		}
	}
}

// TestNearKeys has texts that are nearly one of the names: with a byte more, fewer, or another one, and in capitals.
func TestNearKeys(t *testing.T) {
	for _, key := range allKeys {
		for _, name := range nearly(key) {
			if want := slices.Contains(allKeys, name); Key(name) != want {
				t.Errorf("Key(%q) = %t", name, !want)
			}
		}
	}
}

// nearly answers all texts that a byte more, fewer or another one makes of a text, and some that are longer or in capitals.
func nearly(text string) []string {
	l := []string{strings.ToUpper(text), strings.ToUpper(text[:1]) + text[1:], text + text, text + "\n", " " + text + " ", text + "\x00\x00", text + "ing"}
	for at := range len(text) + 1 {
		l = append(l, text[:at], text[at:])
		for c := range 256 {
			l = append(l, text[:at]+string([]byte{byte(c)})+text[at:])
			if at < len(text) && text[at] != byte(c) {
				l = append(l, text[:at]+string([]byte{byte(c)})+text[at+1:])
			}
		}
		if at < len(text) {
			l = append(l, text[:at]+text[at+1:])
		}
	}
	return slices.DeleteFunc(l, func(name string) bool { return name == text })
}

// TestKeyReads holds that Read takes for such a name just what Key does.
func TestKeyReads(t *testing.T) {
	for _, key := range allKeys {
		checkWords(t, key, k(key))
		for _, name := range nearly(key) {
			checkPlain(t, name)
			l, _, e := Read(name)
			if e == 0 && len(l) == 1 && l[0].Text == name && (l[0].Kind == 'k') != Key(name) {
				t.Errorf("Read(%q) = %v, but Key is %t", name, l, Key(name))
			}
		}
	}
}
