package rid_test

import (
	"math"
	"strings"
	"testing"
	"unsafe"

	"limelight/rid"
)

// right tells by the chapter's words, byte by byte, whether s is a name: each rune that may stand in one is one byte.
func right(s string) bool {
	const may = "abcdefghijklmnopqrstuvwxyzABCDEFGHIJKLMNOPQRSTUVWXYZ0123456789-_"
	for i := range len(s) {
		if strings.IndexByte(may, s[i]) < 0 {
			return false
		}
	}
	return len(s) >= 1 && len(s) <= 8
}

func TestRight(t *testing.T) {
	for _, s := range []string{"a", "z", "A", "Z", "0", "9", "-", "_", "hi", "Hi", "--__", "q-1_HD", "12345678", "aZ09-_bc"} {
		if !rid.Right(s) {
			t.Errorf("P2.1: Right(%q): false", s)
		}
	}
	for _, s := range []string{
		"", "123456789", "aZ09-_bcd", strings.Repeat("a", 1<<16),
		" ", "a b", "a.b", "a\n", "\x00", "a\x00", "+", ".", "/",
		"é", "aé", "世", "世界", "\U0001f600",
		"ａ", "Ａ", "٣", "０", "\u212a", "\u017f", "ı", "İ", "–", "‿", // letters, digits and dashes that are not those of the chapter
		"\xff", "a\xff", "\xffa", "\xc3", "a\xe4\xb8", "\x80", "\ufffd", "1234567\xff", "12345678\xff",
	} {
		if rid.Right(s) {
			t.Errorf("P2.1: Right(%q): true", s)
		}
	}
}

func TestRightOfEachByteAndLength(t *testing.T) {
	for c := range 256 {
		one := string([]byte{byte(c)})
		for n := range 11 {
			for _, s := range []string{strings.Repeat(one, n), strings.Repeat("x", n) + one, one + strings.Repeat("x", n)} {
				if got := rid.Right(s); got != right(s) {
					t.Errorf("P2.1: Right(%q): %v", s, got)
				}
			}
		}
	}
}

func TestRightOfEachRune(t *testing.T) {
	for r := rune(0); r <= 0x10ffff; r++ {
		s := string(r)
		if got := rid.Right(s); got != right(s) {
			t.Errorf("P2.1: Right(%q): %v", s, got)
		}
	}
}

func TestCount(t *testing.T) {
	for s, want := range map[string]int{
		"": 0, "a": 1, "abc": 3, "\x00\x00": 2,
		"é": 1, "e\u0301": 2, "世": 1, "a世b": 3, "\U0001f600": 1, "\U0010ffff": 1, "\ufffd": 1,
		"\xff": 1, "\xff\xff\xff": 3, "a\xffb": 3, "\x80": 1, "\xc3": 1, "\xe4\xb8": 2, "\xe4\xb8世": 3, "世\x96": 2,
		"\xed\xa0\x80":     3, // half of a pair
		"\xc0\x80":         2, // longer than it need be
		"\xf4\x90\x80\x80": 4, // above the last rune
		"\xf0\x9f\x98":     3, // cut short
		"\xef\xbf\xbd\xef": 2,
	} {
		if got := rid.Count(s); got != want {
			t.Errorf("P2.1: Count(%q): %d, want %d", s, got, want)
		}
	}
	if got := rid.Count(strings.Repeat("世\xff", 1<<16)); got != 1<<17 {
		t.Errorf("P2.1: Count of a long name: %d", got)
	}
}

func TestFold(t *testing.T) {
	for s, want := range map[string]string{
		"": "", "Hi": "hi", "hi": "hi", "HI": "hi", "AZaz09-_": "azaz09-_",
		"ABCDEFGHIJKLMNOPQRSTUVWXYZ": "abcdefghijklmnopqrstuvwxyz",
		"@[`{":                       "@[`{",
		"\x00A\x7f":                  "\x00a\x7f",
		"ÄÖÜ":                        "ÄÖÜ", "ΑБ": "ΑБ", "ＡＺ": "ＡＺ", "\u212a": "\u212a", "İ": "İ", "ẞ": "ẞ", "\u017f": "\u017f",
		"世A界": "世a界", "\U0001f600X": "\U0001f600x", "\ufffd": "\ufffd",
		"\xff": "\ufffd", "A\xffB": "a\ufffdb", "\xff\xfe": "\ufffd\ufffd", "\xe4\xb8": "\ufffd\ufffd", "\xe4\xb8A": "\ufffd\ufffda", "A\xc3": "a\ufffd",
		"\xed\xa0\x80": "\ufffd\ufffd\ufffd", "\xc1\x81": "\ufffd\ufffd",
	} {
		if got := rid.Fold(s); got != want {
			t.Errorf("P2.1: Fold(%q): %q, want %q", s, got, want)
		}
	}
}

func TestFoldOfEachRune(t *testing.T) {
	for r := rune(0); r <= 0x10ffff; r++ {
		want := string(r)
		if r >= 'A' && r <= 'Z' {
			want = string(r + 32)
		}
		if got := rid.Fold(string(r)); got != want {
			t.Errorf("P2.1: Fold(%q): %q", string(r), got)
		}
	}
}

func TestSame(t *testing.T) {
	for _, c := range []struct {
		a, b string
		want bool
	}{
		{"", "", true}, {"hi", "hi", true}, {"Hi", "hI", true}, {"Q-1_", "q-1_", true},
		{"世A", "世a", true}, {"Ä", "Ä", true},
		{"\xff", "\xff", true}, {"\xff", "\x80", true}, {"\xff", "\ufffd", true}, {"A\xfe", "a\xff", true}, {"\xe4\xb8", "\xff\xff", true},
		{"", "a", false}, {"", "\x00", false}, {"", "\xff", false}, {"a", "b", false}, {"a", "aa", false}, {"hi", "hi ", false}, {"a-", "a_", false},
		{"ä", "Ä", false}, {"K", "\u212a", false}, {"k", "\u212a", false}, {"s", "\u017f", false}, {"é", "e\u0301", false}, {"ß", "ss", false},
		{"\xff", "\xff\xff", false}, {"\xe4\xb8", "\ufffd", false}, {"@", "`", false}, {"[", "{", false},
	} {
		if rid.Same(c.a, c.b) != c.want || rid.Same(c.b, c.a) != c.want {
			t.Errorf("P2.1: Same(%q, %q), or the other way round: not %v", c.a, c.b, c.want)
		}
	}
}

func TestShort(t *testing.T) {
	for _, c := range []struct {
		s    string
		n    int
		want string
	}{
		{"abc", 2, "ab"}, {"abc", 1, "a"}, {"abc", 3, "abc"}, {"abc", 4, "abc"}, {"ABC", 2, "AB"},
		{"abc", 0, ""}, {"abc", -1, ""}, {"abc", math.MinInt, ""}, {"abc", math.MaxInt, "abc"},
		{"", 0, ""}, {"", 1, ""}, {"", -1, ""}, {"", math.MaxInt, ""}, {"", math.MinInt, ""},
		{"世界x", 0, ""}, {"世界x", 1, "世"}, {"世界x", 2, "世界"}, {"世界x", 3, "世界x"}, {"世界x", 9, "世界x"}, {"e\u0301x", 1, "e"},
		{"\xff\xfeA", 1, "\xff"}, {"\xff\xfeA", 2, "\xff\xfe"}, {"\xff\xfeA", 3, "\xff\xfeA"}, {"\xff", -1, ""}, {"\xff", 5, "\xff"},
		{"a\xe4\xb8b", 2, "a\xe4"}, {"a\xe4\xb8b", 3, "a\xe4\xb8"}, {"a\xe4\xb8", 2, "a\xe4"}, {"\xe4\xb8世", 2, "\xe4\xb8"}, {"\xe4\xb8世", 3, "\xe4\xb8世"},
		{"A\ufffdb", 2, "A\ufffd"},
	} {
		if got := rid.Short(c.s, c.n); got != c.want {
			t.Errorf("P2.1: Short(%q, %d): %q, want %q", c.s, c.n, got, c.want)
		}
	}
}

func TestAnswersAreNew(t *testing.T) {
	s := strings.Repeat("ab", 20)
	for n := 1; n <= 41; n++ {
		if unsafe.StringData(rid.Short(s, n)) == unsafe.StringData(s) {
			t.Errorf("R2: Short(s, %d) answered memory that it was handed", n)
		}
	}
	if unsafe.StringData(rid.Fold(s)) == unsafe.StringData(s) {
		t.Error("R2: Fold answered memory that it was handed")
	}
}

// TestEachShortName goes through all names of up to five of a few bytes, broken ones among them, and holds the calls against each other.
func TestEachShortName(t *testing.T) {
	const bytes = "aZ-.\xe4\xb8\x96\xff"
	names := []string{""}
	for at := 0; at < len(names); at++ {
		s := names[at]
		holdTogether(t, s)
		if len(s) < 5 {
			for i := range len(bytes) {
				names = append(names, s+bytes[i:i+1])
			}
		}
	}
}

func holdTogether(t *testing.T, s string) {
	t.Helper()
	runes := []rune(s)
	if got := rid.Count(s); got != len(runes) {
		t.Errorf("P2.1: Count(%q): %d, want %d", s, got, len(runes))
	}
	for n := range len(runes) + 2 {
		x := rid.Short(s, n)
		rest, ok := strings.CutPrefix(s, x)
		if !ok || rid.Count(x) != min(n, len(runes)) || rid.Fold(x)+rid.Fold(rest) != rid.Fold(s) {
			t.Errorf("P2.1: Short(%q, %d): %q", s, n, x)
		}
	}
	want := strings.ReplaceAll(string(runes), "Z", "z")
	if got := rid.Fold(s); got != want || rid.Fold(got) != got || !rid.Same(s, got) {
		t.Errorf("P2.1: Fold(%q): %q, want %q", s, got, want)
	}
	if got := rid.Right(s); got != right(s) || rid.Right(rid.Fold(s)) != got {
		t.Errorf("P2.1: Right(%q): %v", s, got)
	}
}
