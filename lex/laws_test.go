package lex_test

import (
	"math/rand"
	"regexp"
	"slices"
	"strings"
	"testing"

	"bellows/api"
	"bellows/lex"
)

// each hands to do all texts of at most n bytes of letters that begin with s.
func each(letters, s string, n int, do func(string)) {
	do(s)
	if n == 0 {
		return
	}
	for i := range len(letters) {
		each(letters, s+letters[i:i+1], n-1, do)
	}
}

// anyText is some bytes of letters.
func anyText(chance *rand.Rand, letters string, most int) string {
	b := make([]byte, chance.Intn(most+1))
	for i := range b {
		b[i] = letters[chance.Intn(len(letters))]
	}
	return string(b)
}

// The form of lines and words, where a $ and what stands behind it are taken together.
var (
	noLine  = regexp.MustCompile(`\A *(#.*)?\z`)
	toEnd   = regexp.MustCompile(`\A(?:\$(?s:.)|[^$\n])*`)
	pair    = regexp.MustCompile(`\$(?:\n *|.)`)
	between = regexp.MustCompile(`\A *((?:\$.|[^$])*?) *\z`)
	word    = regexp.MustCompile(`\|\||[|:]|(?:\$(?s:.)|[^$ :|])+\$?|\$`)
)

// model tells the lines of a text that has no byte that may not be.
func model(text string) ([]lex.Line, int, api.Errno) {
	var told []lex.Line
	number := 1
	for more := true; more; number++ {
		row, behind, isMore := strings.Cut(text, "\n")
		if noLine.MatchString(row) {
			text, more = behind, isMore
			continue
		}
		l := lex.Line{Inner: row[0] == ' ', Number: number}
		whole := toEnd.FindString(text)
		number += strings.Count(whole, "\n")
		text = text[len(whole):]
		if strings.HasPrefix(text, "$") {
			return nil, number, api.ErrParse
		}
		together := pair.ReplaceAllStringFunc(whole, func(s string) string {
			if s[1] == '\n' {
				return ""
			}
			return s
		})
		l.Text = between.FindStringSubmatch(together)[1]
		told = append(told, l)
		_, text, more = strings.Cut(text, "\n")
	}
	return told, 0, api.OK
}

// follows checks the lines and the words of one text against the model.
func follows(t *testing.T, text string) {
	t.Helper()
	l, n, e := lex.Lines(text)
	want, number, err := model(text)
	if !slices.Equal(l, want) || n != number || e != err {
		t.Fatalf("Lines(%q) = %+v, %d, %d, want %+v, %d, %d", text, l, n, e, want, number, err)
	}
	if w, want := lex.Words(text), word.FindAllString(text, -1); !slices.Equal(w, want) {
		t.Fatalf("Words(%q) = %q, want %q", text, w, want)
	}
}

func TestP9_1_AllShortTexts(t *testing.T) {
	each("a $\n", "", 8, func(text string) { follows(t, text) })
	each("a# $\n", "", 6, func(text string) { follows(t, text) })
}

func TestP9_1_ManyTexts(t *testing.T) {
	chance := rand.New(rand.NewSource(1))
	right := 0
	for range 20000 {
		text := anyText(chance, "ab  $$\n\n#:|", 40)
		follows(t, text)
		if _, _, e := lex.Lines(text); e == api.OK {
			right++
		}
	}
	if right < 10000 || right > 19900 {
		t.Errorf("%d texts are right", right)
	}
}

func TestP9_2_AllShortLines(t *testing.T) {
	each("a $:|", "", 7, func(s string) {
		if w, want := lex.Words(s), word.FindAllString(s, -1); !slices.Equal(w, want) {
			t.Fatalf("Words(%q) = %q, want %q", s, w, want)
		}
	})
}

func TestP9_2_WordsAgain(t *testing.T) {
	// Words with a blank between are these words; a sign is one, and no other one has a sign's byte without a $ ahead.
	chance := rand.New(rand.NewSource(2))
	for range 20000 {
		w := lex.Words(anyText(chance, "ab  $$:|", 30))
		if again := lex.Words(strings.Join(w, " ")); !slices.Equal(w, again) {
			t.Fatalf("%q are %q", w, again)
		}
		for _, x := range w {
			if x == "" || lex.Sign(x) != strings.ContainsAny(pair.ReplaceAllString(x, ""), ":|") {
				t.Fatalf("%q: %q", w, x)
			}
		}
	}
}

// row is a line's words, each as its parts, between which it may be broken; and whether it is an inner one.
type row struct {
	inner bool
	words [][]string
}

func anyRow(chance *rand.Rand) row {
	r := row{inner: chance.Intn(2) == 0}
	for range 1 + chance.Intn(5) {
		if chance.Intn(3) == 0 {
			r.words = append(r.words, []string{[]string{":", "|", "||"}[chance.Intn(3)]})
			continue
		}
		// The first part is no mark: where a line begins it would not count.
		parts := []string{[]string{"a", "$ ", "$:", "$|", "$$", "=", "$x"}[chance.Intn(7)]}
		for range chance.Intn(4) {
			parts = append(parts, []string{"b", "#", "$ ", "$:", "$|", "$$", "${y}"}[chance.Intn(7)])
		}
		r.words = append(r.words, parts)
	}
	return r
}

func (r row) told() []string {
	var words []string
	for _, parts := range r.words {
		words = append(words, strings.Join(parts, ""))
	}
	return words
}

// written writes a row, broken by chance where that may be.
func (r row) written(chance *rand.Rand) string {
	var s strings.Builder
	blanks := func(least int) { s.WriteString(strings.Repeat(" ", least+chance.Intn(3))) }
	breaks := func() {
		for chance.Intn(4) == 0 {
			s.WriteString("$\n")
			blanks(0)
		}
	}
	if r.inner {
		blanks(1)
	}
	ahead := ""
	for _, parts := range r.words {
		now := strings.Join(parts, "")
		switch {
		case ahead == "":
		case (lex.Sign(ahead) || lex.Sign(now)) && !(ahead[0] == '|' && now[0] == '|'):
			blanks(0)
		default:
			blanks(1)
		}
		for _, part := range parts {
			breaks()
			s.WriteString(part)
		}
		ahead = now
	}
	blanks(0)
	return s.String()
}

func TestP9_3_WhatChangesNoWords(t *testing.T) {
	chance := rand.New(rand.NewSource(3))
	for range 5000 {
		var rows []row
		var numbers []int
		var s strings.Builder
		for range chance.Intn(8) {
			for chance.Intn(3) == 0 {
				s.WriteString([]string{"\n", "   \n", "# a\n", "  #: $\n", "#$\n", " #$$$\n"}[chance.Intn(6)])
			}
			rows = append(rows, anyRow(chance))
			numbers = append(numbers, 1+strings.Count(s.String(), "\n"))
			s.WriteString(rows[len(rows)-1].written(chance) + "\n")
		}
		l, n, e := lex.Lines(s.String())
		if len(l) != len(rows) || n != 0 || e != api.OK {
			t.Fatalf("Lines(%q) = %+v, %d, %d", s.String(), l, n, e)
		}
		for i, r := range rows {
			if l[i].Inner != r.inner || l[i].Number != numbers[i] || !slices.Equal(lex.Words(l[i].Text), r.told()) {
				t.Fatalf("line %d of %q is %+v, want %q at %d", i, s.String(), l[i], r.told(), numbers[i])
			}
		}
	}
}

func TestP9_3_LinesAgain(t *testing.T) {
	// The texts of lines, one below the other, are told as they were, but for where they stood: those that would not count as they came together, too, if a $ and a line's end stand ahead.
	chance := rand.New(rand.NewSource(4))
	for range 20000 {
		l, _, e := lex.Lines(anyText(chance, "ab  $\n\n#", 40))
		if e != api.OK {
			continue
		}
		var s strings.Builder
		for _, x := range l {
			if x.Inner {
				s.WriteString(" ")
			}
			s.WriteString("$\n" + x.Text + "\n")
		}
		again, n, e := lex.Lines(s.String())
		if len(again) != len(l) || n != 0 || e != api.OK {
			t.Fatalf("Lines(%q) = %+v, %d, %d, want %+v", s.String(), again, n, e, l)
		}
		for i, x := range l {
			if again[i].Inner != x.Inner || again[i].Text != x.Text || again[i].Number != 2*i+1 {
				t.Fatalf("line %d of %q is %+v, want %+v", i, s.String(), again[i], x)
			}
		}
	}
}

func TestP9_3_TheSameAgain(t *testing.T) {
	// What is told is new: turning it turns no later answer.
	l, _, _ := lex.Lines("a b\n c")
	l[0], l[1] = lex.Line{}, lex.Line{}
	tells(t, "a b\n c", outer(1, "a b"), inner(2, "c"))
	w := lex.Words("a b")
	w[0] = "x"
	has(t, "a b", "a", "b")
}
