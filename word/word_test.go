package word_test

import (
	"math"
	"math/big"
	"slices"
	"strings"
	"testing"

	"quittance/api"
	"quittance/word"
)

// texts are all those of up to most bytes, each one of some.
func texts(some string, most int) []string {
	all := []string{""}
	for from, size := 0, 1; size <= most; size++ {
		to := len(all)
		for _, s := range all[from:to] {
			for k := range len(some) {
				all = append(all, s+some[k:k+1])
			}
		}
		from = to
	}
	return all
}

// formed says whether a text is one that Number takes by its form: byte by byte, as the chapter words it.
func formed(s string) bool {
	if s == "0" {
		return true
	}
	if s != "" && s[0] == '-' {
		s = s[1:]
	}
	if s == "" || s[0] < '1' || s[0] > '9' {
		return false
	}
	for k := 1; k < len(s); k++ {
		if s[k] < '0' || s[k] > '9' {
			return false
		}
	}
	return true
}

// told is what Number has to tell of a text.
func told(s string) (int64, api.Errno) {
	if !formed(s) {
		return 0, api.ErrForm
	}
	n, _ := new(big.Int).SetString(s, 10)
	if !n.IsInt64() {
		return 0, api.ErrBig
	}
	return n.Int64(), api.OK
}

// numbers are the powers of 2 and of 10, their neighbours, and small ones, of both signs.
func numbers() []int64 {
	var l []int64
	for n := range int64(1200) {
		l = append(l, n, -n)
	}
	for k := range 64 {
		p := int64(1) << k
		l = append(l, p, p-1, p+1, -p, -p-1, -p+1)
	}
	for p := int64(10); p < math.MaxInt64/10; p *= 10 {
		l = append(l, p, p-1, p+1, -p, -p-1, -p+1)
	}
	slices.Sort(l)
	return slices.Compact(l)
}

func TestLines(t *testing.T) {
	checks := []struct {
		s     string
		lines []string
	}{
		{"", nil},
		{"\n", []string{""}},
		{"\n\n", []string{"", ""}},
		{"a", []string{"a"}},
		{"a\n", []string{"a"}},
		{"a\n\n", []string{"a", ""}},
		{"\na", []string{"", "a"}},
		{"a\nb", []string{"a", "b"}},
		{"a\nb\n", []string{"a", "b"}},
		{"a\n\nb", []string{"a", "", "b"}},
		{" \n ", []string{" ", " "}},
		{"a\r\nb\r", []string{"a\r", "b\r"}},
		{"a\r", []string{"a\r"}},
		{"a;b\x00\v\f\u0085\u2028c", []string{"a;b\x00\v\f\u0085\u2028c"}},
		{"\xff\n\xc3\n\xa4", []string{"\xff", "\xc3", "\xa4"}},
		{"\xe0\x0a\x8a", []string{"\xe0", "\x8a"}},
	}
	for _, c := range checks {
		if l := word.Lines(c.s); !slices.Equal(l, c.lines) {
			t.Errorf("Lines of %q: %q", c.s, l)
		}
	}
}

func TestLinesBackOfAll(t *testing.T) {
	for _, s := range texts("\n a\xff", 5) {
		l := word.Lines(s)
		ends := strings.Count(s, "\n")
		if s != "" && !strings.HasSuffix(s, "\n") {
			ends++
		}
		if len(l) != ends {
			t.Errorf("Lines of %q: %q", s, l)
		}
		back := ""
		for _, line := range l {
			back += line + "\n"
			if strings.Contains(line, "\n") {
				t.Errorf("Lines of %q: %q", s, l)
			}
		}
		if back != s && back != s+"\n" {
			t.Errorf("Lines of %q: %q", s, l)
		}
	}
}

func TestWords(t *testing.T) {
	checks := []struct {
		s     string
		words []string
	}{
		{"", []string{""}},
		{" ", []string{"", ""}},
		{"   ", []string{"", "", "", ""}},
		{"a", []string{"a"}},
		{"a  b", []string{"a", "", "b"}},
		{" a", []string{"", "a"}},
		{"a ", []string{"a", ""}},
		{"a b c", []string{"a", "b", "c"}},
		{"a\tb\nc\rd", []string{"a\tb\nc\rd"}},
		{"a\u00a0b\u2003c", []string{"a\u00a0b\u2003c"}},
		{"\xff \xc3", []string{"\xff", "\xc3"}},
	}
	for _, c := range checks {
		if l := word.Words(c.s); !slices.Equal(l, c.words) {
			t.Errorf("Words of %q: %q", c.s, l)
		}
	}
}

func TestWordsAndJoinBackOfAll(t *testing.T) {
	for _, s := range texts(" \na\xff", 5) {
		l := word.Words(s)
		if len(l) != strings.Count(s, " ")+1 {
			t.Errorf("Words of %q: %q", s, l)
		}
		if word.Join(l, " ") != s {
			t.Errorf("Words of %q: %q", s, l)
		}
	}
}

func TestNumberAtEnds(t *testing.T) {
	checks := []struct {
		s     string
		n     int64
		wrong api.Errno
	}{
		{"0", 0, api.OK},
		{"1", 1, api.OK},
		{"-1", -1, api.OK},
		{"10", 10, api.OK},
		{"-1002003004005006007", -1002003004005006007, api.OK},
		{"9223372036854775807", math.MaxInt64, api.OK},
		{"9223372036854775808", 0, api.ErrBig},
		{"-9223372036854775808", math.MinInt64, api.OK},
		{"-9223372036854775809", 0, api.ErrBig},
		{"9999999999999999999", 0, api.ErrBig},
		{"10000000000000000000", 0, api.ErrBig},
		{"18446744073709551615", 0, api.ErrBig},
		{"18446744073709551616", 0, api.ErrBig},
		{"18446744073709551617", 0, api.ErrBig},
		{"-18446744073709551617", 0, api.ErrBig},
		{"340282366920938463463374607431768211457", 0, api.ErrBig},
		{"1" + strings.Repeat("0", 100000), 0, api.ErrBig},
		{"-" + strings.Repeat("9", 100000), 0, api.ErrBig},
	}
	for _, c := range checks {
		if n, wrong := word.Number(c.s); n != c.n || wrong != c.wrong {
			t.Errorf("Number of %.50q: %d, %d", c.s, n, wrong)
		}
	}
}

func TestNumberOfWrongForm(t *testing.T) {
	wrong := []string{
		"", "-", "--1", "-0", "00", "01", "-01", "-00", "000000", "+1", "+0", "1-", "1-1", "- 1", " 1", "1 ", "1\n", "\n", "\x00", "1\x00",
		"1.0", "1e3", "1E3", ".1", "1,000", "1_000", "0x1", "0b1", "0o1", "1f", "ff", "Inf", "inf", "nan", "1/", "1:", "/", ":",
		"\u0663", "1\u0663", "\uff11", "1\uff11", "\u00b2", "1\u00b2", "\u22121", "\xff", "1\xff", "1\xc0\xb1", "\xb1", "\ufffd", "1\ufffd",
		"\u0131", "1\u0131", "\U00010031", "1\U00010031",
		// Too great, too: the form is asked first.
		"9223372036854775808x", "x9223372036854775808", "09223372036854775808", "-09223372036854775809", "9223372036854775808 ", "+9223372036854775808",
		strings.Repeat("9", 100000) + "-", "0" + strings.Repeat("9", 100000), strings.Repeat("0", 100000),
	}
	for _, s := range wrong {
		if n, told := word.Number(s); n != 0 || told != api.ErrForm {
			t.Errorf("Number of %.50q: %d, %d", s, n, told)
		}
	}
	for b := range 256 {
		s := string([]byte{'1', byte(b)})
		if b >= '0' && b <= '9' {
			continue
		}
		if n, told := word.Number(s); n != 0 || told != api.ErrForm {
			t.Errorf("Number of %q: %d, %d", s, n, told)
		}
	}
}

func TestNumberOfAll(t *testing.T) {
	for _, s := range texts("-+019 \xff", 5) {
		n, wrong := word.Number(s)
		if want, which := told(s); n != want || wrong != which {
			t.Errorf("Number of %q: %d, %d", s, n, wrong)
		}
	}
	ends := []string{"922337203685477580", "-922337203685477580", "1844674407370955161", "-1844674407370955161"}
	for _, end := range ends {
		for _, behind := range texts("0123456789-x", 2) {
			n, wrong := word.Number(end + behind)
			if want, which := told(end + behind); n != want || wrong != which {
				t.Errorf("Number of %q: %d, %d", end+behind, n, wrong)
			}
		}
	}
}

func TestText(t *testing.T) {
	checks := []struct {
		n int64
		s string
	}{
		{0, "0"},
		{7, "7"},
		{-7, "-7"},
		{10, "10"},
		{-100, "-100"},
		{math.MaxInt64, "9223372036854775807"},
		{math.MinInt64, "-9223372036854775808"},
	}
	for _, c := range checks {
		if s := word.Text(c.n); s != c.s {
			t.Errorf("Text of %d: %q", c.n, s)
		}
	}
}

func TestThereAndBack(t *testing.T) {
	for _, n := range numbers() {
		if back, wrong := word.Number(word.Text(n)); back != n || wrong != api.OK {
			t.Errorf("Number of Text of %d: %d, %d", n, back, wrong)
		}
	}
	for _, s := range texts("-0159", 5) {
		n, wrong := word.Number(s)
		if wrong == api.OK && word.Text(n) != s {
			t.Errorf("Text of Number of %q: %q", s, word.Text(n))
		}
	}
}

func TestCount(t *testing.T) {
	checks := []struct {
		s    string
		most int
		n    int
		ok   bool
	}{
		{"0", 0, 0, true},
		{"0", 5, 0, true},
		{"1", 0, 0, false},
		{"5", 5, 5, true},
		{"6", 5, 0, false},
		{"4", 5, 4, true},
		{"-1", 5, 0, false},
		{"-5", 5, 0, false},
		{"0", -1, 0, false},
		{"-1", -1, 0, false},
		{"-1", 0, 0, false},
		{"-2", -1, 0, false},
		{"0", math.MinInt, 0, false},
		{"1", math.MinInt, 0, false},
		{"-9223372036854775808", math.MinInt, 0, false},
		{"9223372036854775807", math.MaxInt64, math.MaxInt64, true},
		{"9223372036854775807", math.MaxInt64 - 1, 0, false},
		{"9223372036854775806", math.MaxInt64 - 1, math.MaxInt64 - 1, true},
		{"9223372036854775808", math.MaxInt64, 0, false},
		{"-9223372036854775808", math.MaxInt64, 0, false},
		{"4294967296", 4294967295, 0, false},
		{"4294967296", 0, 0, false},
		{"18446744073709551616", 5, 0, false},
		{"18446744073709551617", 5, 0, false},
		{"", 5, 0, false},
		{"-0", 5, 0, false},
		{"01", 5, 0, false},
		{"+1", 5, 0, false},
		{"1 ", 5, 0, false},
		{"x", 5, 0, false},
	}
	for _, c := range checks {
		if n, ok := word.Count(c.s, c.most); n != c.n || ok != c.ok {
			t.Errorf("Count of %q and %d: %d, %v", c.s, c.most, n, ok)
		}
	}
}

func TestJoin(t *testing.T) {
	checks := []struct {
		l       []string
		between string
		s       string
	}{
		{nil, "x", ""},
		{[]string{}, "x", ""},
		{[]string{""}, "x", ""},
		{[]string{"a"}, "x", "a"},
		{[]string{"", ""}, "x", "x"},
		{[]string{"a", "b", "c"}, " ", "a b c"},
		{[]string{"a", "", "c"}, ", ", "a, , c"},
		{[]string{"a", "b"}, "", "ab"},
		{[]string{"", "a", ""}, "\n", "\na\n"},
		{[]string{"\xc3", "\xff"}, "\xa4", "\xc3\xa4\xff"},
	}
	for _, c := range checks {
		if s := word.Join(c.l, c.between); s != c.s {
			t.Errorf("Join of %q and %q: %q", c.l, c.between, s)
		}
	}
}

func TestJoinLeavesItsList(t *testing.T) {
	l := []string{"a", "b", "c", "behind"}
	was := slices.Clone(l)
	for range 2 {
		if s := word.Join(l[:2], " "); s != "a b" {
			t.Errorf("Join of %q: %q", l[:2], s)
		}
	}
	if !slices.Equal(l, was) {
		t.Error("Join changed its list")
	}
}

func TestListsAreNew(t *testing.T) {
	for name, call := range map[string]func(string) []string{"Lines": word.Lines, "Words": word.Words} {
		for _, s := range []string{"a", "a b\nc d", " \n "} {
			first := call(s)
			want := slices.Clone(first)
			for k := range first[:cap(first)] {
				first[:cap(first)][k] = "changed"
			}
			if second := call(s); !slices.Equal(second, want) {
				t.Errorf("%s of %q, what it told before changed: %q", name, s, second)
			}
		}
	}
}
