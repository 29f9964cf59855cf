package scope_test

import (
	"strconv"
	"strings"
	"testing"

	"bellows/api"
	"bellows/scope"
)

// nameBytes are the bytes that a name may have; those ahead of the point may stand without braces.
const nameBytes = "abcdefghijklmnopqrstuvwxyzABCDEFGHIJKLMNOPQRSTUVWXYZ0123456789_-."

// of is a scope of names and texts, one behind the other, below up.
func of(t *testing.T, up *scope.Scope, pairs ...string) *scope.Scope {
	t.Helper()
	s := scope.New(up)
	for i := 0; i < len(pairs); i += 2 {
		if e := s.Set(pairs[i], pairs[i+1]); e != api.OK {
			t.Fatalf("Set(%q, %q): %d", pairs[i], pairs[i+1], e)
		}
	}
	return s
}

// expands checks one expanding, and that nothing stands beside an error.
func expands(t *testing.T, s *scope.Scope, text, want string, e api.Errno) {
	t.Helper()
	if got, err := s.Expand(text); got != want || err != e {
		t.Errorf("Expand(%.60q of %d bytes) = %.60q of %d bytes, %d, want %.60q of %d, %d", text, len(text), got, len(got), err, want, len(want), e)
	}
}

// stands checks what one name stands for.
func stands(t *testing.T, s *scope.Scope, name, want string) {
	t.Helper()
	if got := s.Get(name); got != want {
		t.Errorf("Get(%q) = %q, want %q", name, got, want)
	}
}

func TestP10_1_SetAndGet(t *testing.T) {
	s := of(t, nil, "x", "1", "y.z", "a $x", "-", "", "9", "nine")
	stands(t, s, "x", "1")
	stands(t, s, "y.z", "a $x")
	stands(t, s, "-", "")
	stands(t, s, "9", "nine")
	for _, name := range []string{"X", "y", "z", "", "none", "x ", "$x", "\xff"} {
		stands(t, s, name, "")
	}
	if e := s.Set("x", "2"); e != api.OK {
		t.Errorf("Set again: %d", e)
	}
	stands(t, s, "x", "2")
	if e := s.Set("x", ""); e != api.OK {
		t.Errorf("Set to nothing: %d", e)
	}
	stands(t, s, "x", "")
	stands(t, s, "9", "nine")
}

func TestP10_1_NoName(t *testing.T) {
	s := of(t, nil, "x", "1")
	for _, name := range []string{"", " ", "x ", " x", "x y", "$x", "${x}", "x=", "x/y", "x:", "x+", "ä", "x\n", "\x00", "\xff", "٣"} {
		if e := s.Set(name, "2"); e != api.ErrName {
			t.Errorf("Set(%q): %d", name, e)
		}
		stands(t, s, name, "")
	}
	stands(t, s, "x", "1")
}

func TestP10_1_Upwards(t *testing.T) {
	top := of(t, nil, "a", "top a", "b", "top b", "c", "top c")
	middle := of(t, top, "b", "middle b", "c", "middle c")
	low := of(t, middle, "c", "low c")
	stands(t, low, "a", "top a")
	stands(t, low, "b", "middle b")
	stands(t, low, "c", "low c")
	stands(t, low, "d", "")
	stands(t, middle, "c", "middle c")
	stands(t, top, "c", "top c")
	expands(t, low, "$a,$b,$c,$d", "top a,middle b,low c,", api.OK)
	// One above is looked at as it is then; one below turns none above it, nor one beside it.
	beside := of(t, middle, "b", "beside b")
	if e := top.Set("d", "top d"); e != api.OK {
		t.Fatal(e)
	}
	stands(t, low, "d", "top d")
	stands(t, beside, "c", "middle c")
	stands(t, low, "b", "middle b")
	// A text that is empty is one.
	if e := low.Set("a", ""); e != api.OK {
		t.Fatal(e)
	}
	stands(t, low, "a", "")
	stands(t, beside, "a", "top a")
	expands(t, low, "<$a>", "<>", api.OK)
}

func TestP10_1_ManyScopes(t *testing.T) {
	s := of(t, nil, "x", "far", "y", "up")
	for i := range 1 << 16 {
		s = of(t, s, "z", strconv.Itoa(i))
	}
	stands(t, s, "x", "far")
	expands(t, s, "$x $y $z", "far up 65535", api.OK)
}

func TestP10_1_Nil(t *testing.T) {
	var none *scope.Scope
	for _, name := range []string{"x", "", "x y"} {
		if e := none.Set(name, "1"); e != api.ErrState {
			t.Errorf("Set(%q) of nil: %d", name, e)
		}
		stands(t, none, name, "")
	}
	expands(t, none, "a$x${y.z}b$$$ $:$|", "ab$ :|", api.OK)
	expands(t, none, "a$", "", api.ErrParse)
	expands(t, none, strings.Repeat("a", 1<<14+1), "", api.ErrLong)
	stands(t, scope.New(none), "x", "")
}

func TestP10_1_ScopesWithoutNew(t *testing.T) {
	s := &scope.Scope{}
	stands(t, s, "x", "")
	expands(t, s, "<$x>", "<>", api.OK)
	if e := s.Set("x", "1"); e != api.OK {
		t.Errorf("Set: %d", e)
	}
	stands(t, scope.New(s), "x", "1")
}

func TestP10_1_Expand(t *testing.T) {
	s := of(t, nil, "x", "1 2", "y.z", "$x $$", "in", "a b", "in-2", "c", "-", "minus", "_", "line", "9", "nine", ".", "point", "X", "big")
	for text, want := range map[string]string{
		"":                   "",
		"a":                  "a",
		"a b: c | d || e":    "a b: c | d || e",
		"a$x$$${x}b":         "a1 2$1 2b",
		"$x":                 "1 2",
		"${x}":               "1 2",
		"$x$x":               "1 21 2",
		"$x ${x}":            "1 2 1 2",
		"$x.h":               "1 2.h",
		"$y.z":               ".z",
		"${y.z}":             "$x $$",
		"$in-2":              "c",
		"${in}-2":            "a b-2",
		"$in$-2":             "a b",
		"$in$$-2":            "a b$-2",
		"$-":                 "minus",
		"$_":                 "line",
		"$9":                 "nine",
		"${.}":               "point",
		"$X":                 "big",
		"$x/$X":              "1 2/big",
		"$x}":                "1 2}",
		"${x}}":              "1 2}",
		"$none":              "",
		"${none}":            "",
		"a${no.ne}b":         "ab",
		"$$":                 "$",
		"$$$$":               "$$",
		"$$x":                "$x",
		"$$${x}":             "$1 2",
		"$ ":                 " ",
		"$:":                 ":",
		"$|":                 "|",
		"$ $:$|$$":           " :|$",
		"a$ b":               "a b",
		"$||":                "||",
		"{x}":                "{x}",
		"cat $in > $out.new": "cat a b > .new",
		"\x00\n\xffä":        "\x00\n\xffä",
		"$xä":                "1 2ä",
	} {
		expands(t, s, text, want, api.OK)
	}
}

func TestP10_1_WrongDollars(t *testing.T) {
	s := of(t, nil, "x", "1", "y.z", "2")
	for _, text := range []string{"$", "a$", "$$$", "$.", "$.x", "${", "${x", "${}", "${ }", "${x y}", "${ x}", "${x }", "${x$}", "${$x}", "${x:}", "${x", "${x\n}", "${{x}}", "${y.z", "${ä}", "$;", "$}", "$/", "$+", "$=", "$#", "$\n", "$\t", "$\x00", "$\xff", "$ä", "$(x)", "$x$", "$x $y $", "$x$ $"} {
		expands(t, s, text, "", api.ErrParse)
		expands(t, s, "$x"+text, "", api.ErrParse)
		expands(t, s, "a b"+text, "", api.ErrParse)
		expands(t, s, "$$"+text, "", api.ErrParse)
	}
}

func TestP10_1_EachByteBehindADollar(t *testing.T) {
	for c := range 256 {
		one := string([]byte{byte(c)})
		s := scope.New(nil)
		e := s.Set(one, "it")
		in := strings.Contains(nameBytes, one)
		if in != (e == api.OK) || in != scope.Name(one) {
			t.Errorf("Set(%q): %d, Name %v", one, e, scope.Name(one))
		}
		switch {
		case one == ".":
			expands(t, s, "$"+one, "", api.ErrParse)
			expands(t, s, "${"+one+"}", "it", api.OK)
		case in:
			expands(t, s, "$"+one, "it", api.OK)
			expands(t, s, "${"+one+"}", "it", api.OK)
			expands(t, s, "$"+one+"a", "", api.OK)
		case strings.Contains("$ :|", one):
			expands(t, s, "$"+one+"a", one+"a", api.OK)
			expands(t, s, "${"+one+"}", "", api.ErrParse)
		default:
			expands(t, s, "$"+one, "", api.ErrParse)
			expands(t, s, "${"+one+"a}", "", api.ErrParse)
		}
		if one != "$" {
			expands(t, s, "a"+one+"b", "a"+one+"b", api.OK)
		}
	}
}

func TestP10_1_NotAgain(t *testing.T) {
	// What a name stands for is put in as it is, be it wrong or not.
	s := of(t, nil, "a", "$b", "b", "$a", "c", "$", "d", "${")
	expands(t, s, "$a$b", "$b$a", api.OK)
	expands(t, s, "$c$c", "$$", api.OK)
	expands(t, s, "$d.a}", "${.a}", api.OK)
	expands(t, s, "${d}a}", "${a}", api.OK)
}

func TestP10_1_LongTexts(t *testing.T) {
	const most = 1 << 14
	a := strings.Repeat("a", most)
	s := of(t, nil, "most", a, "more", a+"b", "one", "1", "none", "", "long", strings.Repeat(a, 64))
	stands(t, s, "more", a+"b")
	expands(t, s, a, a, api.OK)
	expands(t, s, a+"a", "", api.ErrLong)
	expands(t, s, "$most", a, api.OK)
	expands(t, s, "$none$most$none", a, api.OK)
	expands(t, s, "$more", "", api.ErrLong)
	expands(t, s, "$most"+"$one", "", api.ErrLong)
	expands(t, s, "$one$most", "", api.ErrLong)
	expands(t, s, "b${most}", "", api.ErrLong)
	expands(t, s, "${most}b", "", api.ErrLong)
	expands(t, s, "${most}$$", "", api.ErrLong)
	expands(t, s, a[1:]+"$one", a[1:]+"1", api.OK)
	expands(t, s, a+"$one", "", api.ErrLong)
	// What is expanded counts, not what is handed in.
	expands(t, s, strings.Repeat("$$", most), strings.Repeat("$", most), api.OK)
	expands(t, s, strings.Repeat("$$", most+1), "", api.ErrLong)
	expands(t, s, strings.Repeat("$none", most), "", api.OK)
	expands(t, s, strings.Repeat("$one", most), strings.Repeat("1", most), api.OK)
	expands(t, s, strings.Repeat("$one", most+1), "", api.ErrLong)
	expands(t, s, strings.Repeat("$long", most), "", api.ErrLong)
	// One that is too long stays so, whatever is short behind it.
	expands(t, s, "$more$one", "", api.ErrLong)
	// A $ that is wrong counts ahead of it, wherever it stands.
	expands(t, s, "$more$", "", api.ErrParse)
	expands(t, s, "$;$more", "", api.ErrParse)
	expands(t, s, a+a+"${x", "", api.ErrParse)
	expands(t, s, strings.Repeat("$long", most)+"$.", "", api.ErrParse)
}

func TestP10_1_LongNames(t *testing.T) {
	long := strings.Repeat("n", 1<<20)
	s := of(t, nil, long, "it", long+".x", "that")
	stands(t, s, long, "it")
	expands(t, s, "$"+long, "it", api.OK)
	expands(t, s, "$"+long+".x", "it.x", api.OK)
	expands(t, s, "${"+long+".x}", "that", api.OK)
	expands(t, s, "$"+long+"n", "", api.OK)
	expands(t, s, "${"+long, "", api.ErrParse)
}

func TestP10_1_ManyNames(t *testing.T) {
	s := scope.New(nil)
	var text, want strings.Builder
	for i := range 2000 {
		n := strconv.Itoa(i)
		if e := s.Set("n"+n, n); e != api.OK {
			t.Fatal(e)
		}
		text.WriteString("$n" + n + ",")
		want.WriteString(n + ",")
	}
	expands(t, s, text.String(), want.String(), api.OK)
}

func TestP10_2_Escape(t *testing.T) {
	for text, want := range map[string]string{
		"":             "",
		"a":            "a",
		"$":            "$$",
		" ":            "$ ",
		":":            "$:",
		"|":            "$|",
		"||":           "$|$|",
		"$$":           "$$$$",
		"a b$c:d|":     "a$ b$$c$:d$|",
		"${x}":         "$${x}",
		"a\nb\x00\xff": "a\nb\x00\xff",
		"äöü":          "äöü",
		"a/b.c_d-e+f":  "a/b.c_d-e+f",
		"#=>{}\\\t":    "#=>{}\\\t",
	} {
		if got := scope.Escape(text); got != want {
			t.Errorf("Escape(%q) = %q, want %q", text, got, want)
		}
	}
	long := strings.Repeat("| ", 1<<16)
	if got := scope.Escape(long); got != strings.Repeat("$|$ ", 1<<16) {
		t.Errorf("Escape of %d bytes has %d", len(long), len(got))
	}
}

func TestP10_2_Name(t *testing.T) {
	for _, s := range []string{"a", "Z", "0", "_", "-", ".", "..", "a_-.9", "9a", "in", "depfile", "rule", "-.-", nameBytes, strings.Repeat("a", 1<<20)} {
		if !scope.Name(s) {
			t.Errorf("%.60q is a name", s)
		}
	}
	for _, s := range []string{"", " ", "a b", " a", "a ", "a/b", "a+b", "a=b", "a:", "$a", "{a}", "a$", "ä", "aä", "a\n", "\x00", "a\x7f", "\xff", "ſ", "\u212a", "٣", "a,b", "@", "[", "`", "/"} {
		if scope.Name(s) {
			t.Errorf("%q is no name", s)
		}
	}
}
