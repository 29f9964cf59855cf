package scope_test

import (
	"math/rand"
	"regexp"
	"slices"
	"strings"
	"testing"

	"bellows/api"
	"bellows/lex"
	"bellows/scope"
)

// each hands to do all texts of at most n bytes of letters that begin with s.
func each(letters, s string, n int, do func(string)) {
	do(s)
	if n == 0 {
		return
	}
	for i := range len(letters) {
		each(letters, s+letters[i:i+1], n-1, do)
	}
}

// anyText is some bytes of letters.
func anyText(chance *rand.Rand, letters string, most int) string {
	b := make([]byte, chance.Intn(most+1))
	for i := range b {
		b[i] = letters[chance.Intn(len(letters))]
	}
	return string(b)
}

// The form of a text that may be expanded, and of its parts that stand for something.
var (
	rightText = regexp.MustCompile(`\A(?:[^$]|\$(?:[$ :|]|[A-Za-z0-9_-]|\{[A-Za-z0-9_.-]+\}))*\z`)
	dollar    = regexp.MustCompile(`\$(?:([$ :|])|([A-Za-z0-9_-]+)|\{([A-Za-z0-9_.-]+)\})`)
)

// model expands a text by other means; get tells what a name stands for.
func model(text string, get func(string) string) (string, api.Errno) {
	if !rightText.MatchString(text) {
		return "", api.ErrParse
	}
	s := dollar.ReplaceAllStringFunc(text, func(s string) string {
		m := dollar.FindStringSubmatch(s)
		return m[1] + get(m[2]+m[3])
	})
	if len(s) > 1<<14 {
		return "", api.ErrLong
	}
	return s, api.OK
}

func TestP10_1_AllShortTexts(t *testing.T) {
	texts := map[string]string{"x": "1 $x", "x.": "two", "xx": "three", ".": "four"}
	s := scope.New(nil)
	for name, text := range texts {
		s.Set(name, text)
	}
	each("$x{}. ", "", 7, func(text string) {
		want, e := model(text, func(name string) string { return texts[name] })
		expands(t, s, text, want, e)
	})
}

// chain is scopes, one below the other, and what a name stands for in the last one, told by other means.
type chain struct {
	scopes []*scope.Scope
	texts  []map[string]string
}

func (c *chain) grow() {
	var up *scope.Scope
	if n := len(c.scopes); n > 0 {
		up = c.scopes[n-1]
	}
	c.scopes = append(c.scopes, scope.New(up))
	c.texts = append(c.texts, map[string]string{})
}

func (c *chain) get(n int, name string) string {
	for _, texts := range slices.Backward(c.texts[:n+1]) {
		if text, ok := texts[name]; ok {
			return text
		}
	}
	return ""
}

func TestP10_1_ManyLives(t *testing.T) {
	for seed := range int64(300) {
		chance := rand.New(rand.NewSource(seed))
		c := &chain{}
		c.grow()
		for range 60 {
			n := chance.Intn(len(c.scopes))
			name := anyText(chance, "ab.-", 2)
			switch chance.Intn(6) {
			case 0:
				c.grow()
			case 1, 2:
				text := anyText(chance, "ab $:|{}.", 8) + strings.Repeat("l", chance.Intn(2)*chance.Intn(9000))
				want := api.ErrName
				if name != "" {
					c.texts[n][name] = text
					want = api.OK
				}
				if e := c.scopes[n].Set(name, text); e != want {
					t.Fatalf("Set(%q): %d", name, e)
				}
			case 3:
				stands(t, c.scopes[n], name, c.get(n, name))
			default:
				var text string
				for range chance.Intn(6) {
					text += []string{"a", " ", "$$", "$ ", "$:", "$|", "$a", "$b", "${a}", "${b.}", "$-a", "${.a}", ".", "$.", "$"}[chance.Intn(15)]
				}
				want, e := model(text, func(name string) string { return c.get(n, name) })
				expands(t, c.scopes[n], text, want, e)
			}
		}
	}
}

func TestP10_2_EscapedIsExpandedToItself(t *testing.T) {
	scopes := []*scope.Scope{nil, scope.New(nil), of(t, of(t, nil, "b", "0"), "a", "1", "ab", "$a", "-", "2")}
	back := func(text string) {
		for _, s := range scopes {
			expands(t, s, scope.Escape(text), text, api.OK)
		}
		// It is one word, whatever stands in it.
		if w := lex.Words(scope.Escape(text)); text != "" && !slices.Equal(w, []string{scope.Escape(text)}) {
			t.Errorf("the words of %q: %q", scope.Escape(text), w)
		}
	}
	each("$a :|{}", "", 5, back)
	for c := range 256 {
		back(string([]byte{byte(c)}))
		back("a" + string([]byte{byte(c)}) + "b")
	}
	back(strings.Repeat("|", 1<<14))
	expands(t, nil, scope.Escape(strings.Repeat("|", 1<<14+1)), "", api.ErrLong)
}

func TestP10_3_PartByPart(t *testing.T) {
	s := of(t, nil, "x", "1 $x", "y.z", "two", "xy", "$", "e", "")
	chance := rand.New(rand.NewSource(1))
	// No part goes on in the next one, but a name without braces, which may stand at the end of the first text alone.
	parts := []string{"a", "x", ".", " ", ":", "|", "{", "}", "$$", "$ ", "$:", "$|", "$x.", "$xy/", "$none ", "${x}", "${y.z}", "${e}", "\n"}
	anyParts := func() string {
		var text string
		for range chance.Intn(6) {
			text += parts[chance.Intn(len(parts))]
		}
		return text
	}
	took := 0
	for range 20000 {
		first, second := anyParts(), anyParts()
		if chance.Intn(2) == 0 {
			first += []string{"$x", "$xy", "$e", "$none"}[chance.Intn(4)]
			if second != "" && second[0] != '.' && scope.Name(second[:1]) {
				continue
			}
		}
		took++
		a, e := s.Expand(first)
		b, err := s.Expand(second)
		if e != api.OK || err != api.OK {
			t.Fatalf("%q: %d, %q: %d", first, e, second, err)
		}
		expands(t, s, first+second, a+b, api.OK)
	}
	if took < 15000 {
		t.Errorf("%d of them", took)
	}
	// Where a name goes on it is another one.
	expands(t, s, "$x"+"y", "$", api.OK)
	expands(t, s, "$x"+".y", "1 $x.y", api.OK)
	// Where the first one ends within a $ it tells nothing of both.
	expands(t, s, "$"+"x", "1 $x", api.OK)
	expands(t, s, "${"+"x}", "1 $x", api.OK)
}

func TestP10_3_ExpandingTurnsNothing(t *testing.T) {
	up := of(t, nil, "x", "1")
	s := of(t, up, "y", "2")
	for range 3 {
		expands(t, s, "$x$y$z", "12", api.OK)
		expands(t, s, "$x$", "", api.ErrParse)
		expands(t, up, "$x$y$z", "1", api.OK)
	}
}
