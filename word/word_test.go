package word

import (
	"errors"
	"math"
	"math/big"
	"math/rand"
	"regexp"
	"slices"
	"strconv"
	"strings"
	"testing"

	"belvedere/api"
	"belvedere/value"
)

const keys = "filter project join union distinct group count sum min max and or not is null true false table drop update create alter step abort read as int text bool"

// splits tells where the words of s are others than these.
func splits(t *testing.T, s string, want ...Word) {
	t.Helper()
	if got, err := Split(s); err != nil || !slices.Equal(got, want) {
		t.Errorf("Split(%q): %+v, %v; want %+v", s, got, err, want)
	}
}

// fails tells where Split(s) is not this error around this place, and nothing beside.
func fails(t *testing.T, s string, err error, pos int) {
	t.Helper()
	words, got := Split(s)
	at, ok := got.(*api.At)
	if !ok || at.Err != err || at.Pos != pos || !errors.Is(got, err) || len(words) > 0 {
		t.Errorf("Split(%q): %+v, %v; want %d: %v", s, words, got, pos, err)
	}
}

func name(pos int, s string) Word { return Word{Kind: Name, Pos: pos, Text: s} }

func key(pos int, s string) Word { return Word{Kind: Key, Pos: pos, Text: s} }

func mark(pos int, s string) Word { return Word{Kind: Mark, Pos: pos, Text: s} }

func text(pos int, s string) Word { return Word{Kind: String, Pos: pos, Text: s} }

func number(pos int, s string, n int64) Word { return Word{Kind: Number, Pos: pos, Text: s, N: n} }

func TestKinds(t *testing.T) {
	if Name != 1 || Number != 2 || String != 3 || Mark != 4 || Key != 5 {
		t.Error("a kind has another number")
	}
}

func TestSplitOfNothing(t *testing.T) {
	splits(t, "")
	splits(t, " ")
	splits(t, " \t\n\r \r\n\t")
	splits(t, strings.Repeat("\n", api.MaxBytes))
}

func TestSplitAtBlanks(t *testing.T) {
	for _, b := range []string{" ", "\t", "\n", "\r", "  ", "\r\n", " \t\n\r"} {
		n := len(b)
		splits(t, b)
		splits(t, b+"a", name(n, "a"))
		splits(t, "a"+b, name(0, "a"))
		splits(t, b+"a"+b+"b"+b, name(n, "a"), name(2*n+1, "b"))
		splits(t, "1"+b+"2", number(0, "1", 1), number(n+1, "2", 2))
		splits(t, "-"+b+"2", mark(0, "-"), number(n+1, "2", 2))
		splits(t, "<"+b+"=", mark(0, "<"), mark(n+1, "="))
		splits(t, "'x'"+b+"'y'", text(0, "x"), text(n+3, "y"))
		splits(t, "'"+b+"'", text(0, b))
	}
}

func TestSplitAtNoOtherBlanks(t *testing.T) {
	for _, b := range []string{"\x00", "\x08", "\v", "\f", "\x0e", "\x1f", "\x7f", "\x85", "\xa0", "\u0085", "\u00a0", "\u2003", "\u3000", "\ufeff"} {
		fails(t, b, api.ErrText, 0)
		fails(t, " "+b, api.ErrText, 1)
		fails(t, "a"+b+"b", api.ErrText, 1)
		fails(t, "1 "+b, api.ErrText, 2)
		splits(t, "'"+b+"'", text(0, b))
	}
}

func TestSplitOfMaxBytes(t *testing.T) {
	names := strings.Repeat("a ", api.MaxBytes/2)
	words, err := Split(names)
	if err != nil || len(words) != api.MaxBytes/2 || words[len(words)-1] != name(api.MaxBytes-2, "a") {
		t.Errorf("%d words, %v", len(words), err)
	}
	marks, err := Split(strings.Repeat("=", api.MaxBytes))
	if err != nil || len(marks) != api.MaxBytes || marks[len(marks)-1] != mark(api.MaxBytes-1, "=") {
		t.Errorf("%d marks, %v", len(marks), err)
	}
	splits(t, strings.Repeat(" ", api.MaxBytes-3)+"abc", name(api.MaxBytes-3, "abc"))
	fails(t, strings.Repeat(" ", api.MaxBytes-1)+"?", api.ErrText, api.MaxBytes-1)
	fails(t, strings.Repeat(" ", api.MaxBytes-1)+"'", api.ErrText, api.MaxBytes-1)
	fails(t, strings.Repeat(" ", api.MaxBytes-1)+"!", api.ErrText, api.MaxBytes-1)
	splits(t, strings.Repeat("0", api.MaxBytes-1)+"7", number(0, strings.Repeat("0", api.MaxBytes-1)+"7", 7))
}

func TestSplitOfMoreThanMaxBytes(t *testing.T) {
	fails(t, strings.Repeat("a ", api.MaxBytes/2)+"a", api.ErrLimit, api.MaxBytes)
	fails(t, strings.Repeat("a ", api.MaxBytes/2)+" ", api.ErrLimit, api.MaxBytes)
	fails(t, strings.Repeat("=", api.MaxBytes+1), api.ErrLimit, api.MaxBytes)
	fails(t, strings.Repeat("\u00e9", api.MaxBytes/2)+"a", api.ErrLimit, api.MaxBytes)
	fails(t, strings.Repeat(" ", 1<<20), api.ErrLimit, api.MaxBytes)
	for _, wrong := range []string{"?", "'", "_", "9223372036854775808 ", strings.Repeat("n", api.MaxName+1)} {
		fails(t, wrong+strings.Repeat(" ", api.MaxBytes), api.ErrLimit, api.MaxBytes)
		fails(t, strings.Repeat(wrong, api.MaxBytes+1), api.ErrLimit, api.MaxBytes)
	}
}

func TestMaxBytesCountsBytes(t *testing.T) {
	fails(t, "'"+strings.Repeat("\u00e9", api.MaxBytes/2)+"'", api.ErrLimit, api.MaxBytes)
	fails(t, strings.Repeat("\u00e9", api.MaxBytes/2), api.ErrText, 0)
}

func TestNames(t *testing.T) {
	full := strings.Repeat("n", api.MaxName)
	for _, s := range []string{"a", "z", "m", "aa", "a1", "a_", "a0_9z", "z__", "a9", "abcdefghijklmnopqrstuvwx", full, "a" + strings.Repeat("_", api.MaxName-1), "a" + strings.Repeat("9", api.MaxName-1)} {
		splits(t, s, name(0, s))
		splits(t, " "+s+"\n("+s, name(1, s), mark(len(s)+2, "("), name(len(s)+3, s))
		if !IsName(s) {
			t.Errorf("IsName(%q): false", s)
		}
	}
	splits(t, full+" "+full, name(0, full), name(api.MaxName+1, full))
}

func TestNamesEndAtTheFirstByteThatIsNotTheirs(t *testing.T) {
	splits(t, "a-1", name(0, "a"), number(1, "-1", -1))
	splits(t, "a'b'c", name(0, "a"), text(1, "b"), name(4, "c"))
	splits(t, "a,b", name(0, "a"), mark(1, ","), name(2, "b"))
	splits(t, "a#b=c", name(0, "a"), mark(1, "#"), name(2, "b"), mark(3, "="), name(4, "c"))
	for _, c := range []string{"A", "Z", "B", "`", "{", "@", "/", ":", "\u00e9", "\xe1", "."} {
		fails(t, "ab"+c, api.ErrText, 2)
		fails(t, c+"ab", api.ErrText, 0)
		fails(t, "x ab"+c+"ab", api.ErrText, 4)
	}
	fails(t, "_a", api.ErrText, 0)
	fails(t, "1_a", api.ErrText, 1)
	splits(t, "1a_", number(0, "1", 1), name(1, "a_"))
}

func TestNamesThatAreTooLong(t *testing.T) {
	for _, s := range []string{strings.Repeat("n", api.MaxName+1), "a" + strings.Repeat("_", api.MaxName), "z" + strings.Repeat("0", api.MaxName), strings.Repeat("n", 2*api.MaxName), strings.Repeat("n", api.MaxBytes-2), "filter" + strings.Repeat("r", api.MaxName-5)} {
		fails(t, s, api.ErrText, 0)
		fails(t, s+"?", api.ErrText, 0)
		fails(t, "x "+s, api.ErrText, 2)
		if IsName(s) {
			t.Errorf("IsName(%q): true", s)
		}
	}
}

func TestKeys(t *testing.T) {
	for _, s := range strings.Fields(keys) {
		splits(t, s, key(0, s))
		splits(t, " "+s+"("+s+"'"+s+"'", key(1, s), mark(len(s)+1, "("), key(len(s)+2, s), text(2*len(s)+2, s))
		splits(t, "1"+s+"-1", number(0, "1", 1), key(1, s), number(len(s)+1, "-1", -1))
		if IsName(s) {
			t.Errorf("IsName(%q): true", s)
		}
		for _, more := range []string{s + "s", s + "_", s + "0", s + s, "a" + s, s + "_" + s, s + "x"} {
			splits(t, more, name(0, more))
			if !IsName(more) {
				t.Errorf("IsName(%q): false", more)
			}
		}
		long := s + strings.Repeat("_", api.MaxName-len(s))
		splits(t, long, name(0, long))
		fails(t, strings.ToUpper(s), api.ErrText, 0)
		fails(t, s+"A", api.ErrText, len(s))
		if less := s[:len(s)-1]; !slices.Contains(strings.Fields(keys), less) {
			splits(t, less, name(0, less))
		}
	}
}

func TestOtherWordsAreNames(t *testing.T) {
	for _, s := range []string{"scan", "eq", "avg", "order", "by", "from", "where", "select", "string", "number", "bools", "view", "on", "in", "if"} {
		splits(t, s, name(0, s))
	}
}

func TestNumbers(t *testing.T) {
	for _, n := range []int64{0, 1, 7, 9, 10, 42, 100, 1000000, math.MaxInt64 - 1, math.MaxInt64, -1, -9, -10, -1000, math.MinInt64 + 1, math.MinInt64} {
		s := strconv.FormatInt(n, 10)
		splits(t, s, number(0, s, n))
		splits(t, "a "+s+"a", name(0, "a"), number(2, s, n), name(len(s)+2, "a"))
		splits(t, s+","+s, number(0, s, n), mark(len(s), ","), number(len(s)+1, s, n))
	}
	splits(t, "9223372036854775807", number(0, "9223372036854775807", math.MaxInt64))
	splits(t, "-9223372036854775808", number(0, "-9223372036854775808", math.MinInt64))
}

func TestNumbersWithZerosAhead(t *testing.T) {
	zeros := strings.Repeat("0", 100)
	for _, x := range []struct {
		s string
		n int64
	}{
		{"00", 0}, {"-0", 0}, {"-00", 0}, {"007", 7}, {"-007", -7}, {zeros, 0}, {zeros + "1", 1}, {"-" + zeros + "1", -1},
		{zeros + "9223372036854775807", math.MaxInt64}, {"-" + zeros + "9223372036854775808", math.MinInt64}, {"010", 10}, {"08", 8},
	} {
		splits(t, x.s, number(0, x.s, x.n))
		splits(t, " "+x.s+" 5", number(1, x.s, x.n), number(len(x.s)+2, "5", 5))
	}
}

func TestNumbersThatAreTooGreat(t *testing.T) {
	zeros := strings.Repeat("0", 100)
	for _, s := range []string{"9223372036854775808", "-9223372036854775809", "9223372036854775810", "10000000000000000000", "18446744073709551615", "18446744073709551616", "18446744073709551617", "-18446744073709551615", strings.Repeat("9", 100), "-" + strings.Repeat("9", 3000), zeros + "9223372036854775808", "-" + zeros + "9223372036854775809"} {
		fails(t, s, api.ErrText, 0)
		fails(t, "a"+strings.Repeat(" ", 7)+s+" ?", api.ErrText, 8)
		fails(t, "1 -"+strings.TrimPrefix(s, "-")+"0", api.ErrText, 2)
	}
	fails(t, "a9 -1 9223372036854775808", api.ErrText, 6)
	fails(t, "#9223372036854775808", api.ErrText, 1)
}

func TestNumbersAreDigitsOnly(t *testing.T) {
	splits(t, "+1", mark(0, "+"), number(1, "1", 1))
	splits(t, "1e5", number(0, "1", 1), name(1, "e5"))
	splits(t, "1a2", number(0, "1", 1), name(1, "a2"))
	splits(t, "0x1", number(0, "0", 0), name(1, "x1"))
	fails(t, "1_000", api.ErrText, 1)
	fails(t, "1.5", api.ErrText, 1)
	fails(t, "\u0661", api.ErrText, 0)
	fails(t, "1\u0661", api.ErrText, 1)
	fails(t, "0X1", api.ErrText, 1)
}

func TestMinus(t *testing.T) {
	splits(t, "-", mark(0, "-"))
	splits(t, "a -", name(0, "a"), mark(2, "-"))
	splits(t, "- 1", mark(0, "-"), number(2, "1", 1))
	splits(t, "-\n1", mark(0, "-"), number(2, "1", 1))
	splits(t, "-a", mark(0, "-"), name(1, "a"))
	splits(t, "-'1'", mark(0, "-"), text(1, "1"))
	splits(t, "--1", mark(0, "-"), number(1, "-1", -1))
	splits(t, "---", mark(0, "-"), mark(1, "-"), mark(2, "-"))
	splits(t, "1-1", number(0, "1", 1), number(1, "-1", -1))
	splits(t, "1--1-", number(0, "1", 1), mark(1, "-"), number(2, "-1", -1), mark(4, "-"))
	splits(t, "+-1", mark(0, "+"), number(1, "-1", -1))
	splits(t, "-+1", mark(0, "-"), mark(1, "+"), number(2, "1", 1))
	splits(t, "<-1", mark(0, "<"), number(1, "-1", -1))
	fails(t, "-_", api.ErrText, 1)
	fails(t, "-/", api.ErrText, 1)
	fails(t, "-:", api.ErrText, 1)
}

func TestStrings(t *testing.T) {
	for _, x := range []struct{ s, said string }{
		{"''", ""}, {"'a'", "a"}, {"'a b'", "a b"}, {"' '", " "}, {"'A?_!'", "A?_!"}, {"'null'", "null"}, {"'12'", "12"}, {"'-'", "-"},
		{"''''", "'"}, {"''''''", "''"}, {"'a''b'", "a'b"}, {"'''a'", "'a"}, {"'a'''", "a'"}, {"'''a'''", "'a'"}, {"'a''''b'", "a''b"}, {"'''a''b'''", "'a'b'"},
		{"'\x00\n\t\r'", "\x00\n\t\r"}, {"'\xff\xe9'", "\xff\xe9"}, {"'\u00e9\U0001f600'", "\u00e9\U0001f600"}, {`'\n\'`, `\n\`}, {`'"'`, `"`},
	} {
		splits(t, x.s, text(0, x.said))
		splits(t, " "+x.s+"a", text(1, x.said), name(len(x.s)+1, "a"))
		splits(t, "1"+x.s+" "+x.s, number(0, "1", 1), text(1, x.said), text(len(x.s)+2, x.said))
	}
	splits(t, "'' ''", text(0, ""), text(3, ""))
	splits(t, "'a' 'b'", text(0, "a"), text(4, "b"))
}

func TestStringsOfMaxText(t *testing.T) {
	for _, one := range []string{"x", "'", "\x00", "\xff", " ", "?"} {
		full := strings.Repeat(one, api.MaxText)
		shown := value.Show(value.Str(full))
		splits(t, shown, text(0, full))
		splits(t, shown+"a "+shown, text(0, full), name(len(shown), "a"), text(len(shown)+2, full))
		for _, more := range []int{1, 2, api.MaxText} {
			long := value.Show(value.Str(full + strings.Repeat(one, more)))
			fails(t, long, api.ErrText, 0)
			fails(t, "abc "+long+" ?", api.ErrText, 4)
		}
	}
	splits(t, "'"+strings.Repeat("\u00e9", api.MaxText/2)+"'", text(0, strings.Repeat("\u00e9", api.MaxText/2)))
	fails(t, "'"+strings.Repeat("\u00e9", api.MaxText/2)+"x'", api.ErrText, 0)
	fails(t, "'"+strings.Repeat("\u00e9", api.MaxText/2+1)+"'", api.ErrText, 0)
	fails(t, "'"+strings.Repeat("''", api.MaxText)+"x'", api.ErrText, 0)
}

func TestStringsThatAreNotEnded(t *testing.T) {
	for _, s := range []string{"'", "'a", "'''", "'a''", "'''''", "'a''b", "'a b c ( 1", "'a\n", "'" + strings.Repeat("x", api.MaxText+1), "'" + strings.Repeat("''", 200)} {
		fails(t, s, api.ErrText, 0)
		fails(t, " a"+s, api.ErrText, 2)
		fails(t, "'b' "+s, api.ErrText, 4)
	}
}

func TestMarks(t *testing.T) {
	for _, s := range strings.Fields("( ) [ ] , # = != < <= > >= + -") {
		n := len(s)
		splits(t, s, mark(0, s))
		splits(t, "a"+s+"b", name(0, "a"), mark(1, s), name(n+1, "b"))
		splits(t, " "+s+"\t"+s+"'"+s+"'", mark(1, s), mark(n+2, s), text(2*n+2, s))
	}
}

func TestMarksAreTheLongestThatCanBe(t *testing.T) {
	splits(t, "()[],#", mark(0, "("), mark(1, ")"), mark(2, "["), mark(3, "]"), mark(4, ","), mark(5, "#"))
	splits(t, "==", mark(0, "="), mark(1, "="))
	splits(t, "=<", mark(0, "="), mark(1, "<"))
	splits(t, "=>", mark(0, "="), mark(1, ">"))
	splits(t, "<=>", mark(0, "<="), mark(2, ">"))
	splits(t, "<==", mark(0, "<="), mark(2, "="))
	splits(t, "<>", mark(0, "<"), mark(1, ">"))
	splits(t, "<<=", mark(0, "<"), mark(1, "<="))
	splits(t, ">>=", mark(0, ">"), mark(1, ">="))
	splits(t, "=!=", mark(0, "="), mark(1, "!="))
	splits(t, "!==", mark(0, "!="), mark(2, "="))
	splits(t, "++", mark(0, "+"), mark(1, "+"))
	splits(t, "+=", mark(0, "+"), mark(1, "="))
	splits(t, "(=", mark(0, "("), mark(1, "="))
	splits(t, "#=", mark(0, "#"), mark(1, "="))
}

func TestExclamationAloneIsNone(t *testing.T) {
	fails(t, "!", api.ErrText, 0)
	fails(t, "! =", api.ErrText, 0)
	fails(t, "!a", api.ErrText, 0)
	fails(t, "!!=", api.ErrText, 0)
	fails(t, "!=!", api.ErrText, 2)
	fails(t, "=!", api.ErrText, 1)
	fails(t, "<!=!<", api.ErrText, 3)
}

func TestOtherBytesAreNone(t *testing.T) {
	for _, c := range []byte("\"$%&*./:;?@ABYZ\\^_`{|}~\x7f\x80\xc3\xff") {
		fails(t, string([]byte{c}), api.ErrText, 0)
		fails(t, "( "+string([]byte{c})+" )", api.ErrText, 2)
		fails(t, "='"+string([]byte{c})+"'"+string([]byte{c}), api.ErrText, 4)
	}
}

func TestTheFirstPlaceIsTold(t *testing.T) {
	fails(t, "a ? 'b", api.ErrText, 2)
	fails(t, "a 'b ?", api.ErrText, 2)
	fails(t, "9223372036854775808 ?", api.ErrText, 0)
	fails(t, "a 1 ( 'x' <= filter ! ?", api.ErrText, 20)
	fails(t, "\n\n\t  ?", api.ErrText, 5)
	fails(t, "'\u00e9'\u00e9", api.ErrText, 4)
}

func TestSplitOfCommands(t *testing.T) {
	splits(t, "update t +3 (1, 'it''s'), u -1 ()",
		key(0, "update"), name(7, "t"), mark(9, "+"), number(10, "3", 3), mark(12, "("), number(13, "1", 1), mark(14, ","), text(16, "it's"), mark(23, ")"), mark(24, ","),
		name(26, "u"), number(28, "-1", -1), mark(31, "("), mark(32, ")"))
	splits(t, "filter(#0!=-5 and #1 is null,t1)",
		key(0, "filter"), mark(6, "("), mark(7, "#"), number(8, "0", 0), mark(9, "!="), number(11, "-5", -5), key(14, "and"), mark(18, "#"), number(19, "1", 1), key(21, "is"), key(24, "null"), mark(28, ","), name(29, "t1"), mark(31, ")"))
}

func TestSplitOfShownValues(t *testing.T) {
	for _, v := range []api.Value{value.Of(0), value.Of(-1), value.Of(math.MaxInt64), value.Of(math.MinInt64)} {
		s := value.Show(v)
		splits(t, s, number(0, s, v.N))
	}
	for _, v := range []api.Value{{}, value.Is(true), value.Is(false)} {
		s := value.Show(v)
		splits(t, s, key(0, s))
	}
	for c := range 256 {
		for d := range 256 {
			s := string([]byte{byte(c), byte(d)})
			splits(t, value.Show(value.Str(s))+"=", text(0, s), mark(len(value.Show(value.Str(s))), "="))
		}
	}
}

func TestIsName(t *testing.T) {
	for _, s := range []string{"", " ", "a ", " a", "a b", "a\n", "A", "aB", "Ab", "1", "1a", "_", "_a", "-", "a-", "-a", "a1-", "'a'", "a'", "''", "#", "(", "!=", "!", "a.b", "a\x00", "\x00", "\u00e9", "a\u00e9", "\xff", strings.Repeat("n", api.MaxName+1), strings.Repeat("n", api.MaxName) + " ", strings.Repeat("n", 1<<20), strings.Repeat("'", 1<<20), strings.Repeat(" ", api.MaxBytes+1)} {
		if IsName(s) {
			t.Errorf("IsName(%.40q): true", s)
		}
	}
	for _, s := range []string{"a", "z", "b2", "c_", "c__3", "filters", "trueish", "isnull", "is_null", strings.Repeat("n", api.MaxName)} {
		if !IsName(s) {
			t.Errorf("IsName(%q): false", s)
		}
	}
}

func TestWordsAreTheCallers(t *testing.T) {
	const s = "a 'b' <= 12 filter"
	first, _ := Split(s)
	kept := slices.Clone(first)
	second, _ := Split(s)
	for i := range first {
		first[i] = Word{Kind: 9, Pos: 9, Text: "x", N: 9}
	}
	for spare := first[len(first):cap(first)]; len(spare) > 0; spare = spare[1:] {
		spare[0] = Word{Kind: 9}
	}
	if !slices.Equal(second, kept) {
		t.Errorf("another answer shows what was written: %+v", second)
	}
	splits(t, s, kept...)
}

// begins is a word as the chapter has it, by its kinds: a Name or Key, a Number, a String, a Mark.
var begins = regexp.MustCompile(`^(?:([a-z][a-z0-9_]*)|(-?[0-9]+)|('(?:''|[^'])*')|(!=|<=|>=|[()\[\],#=<>+-]))`)

// wordAt is the word at the place at of s, and its length, by the expression; 0: none.
func wordAt(s string, at int) (Word, int) {
	m := begins.FindStringSubmatch(s[at:])
	if m == nil {
		return Word{}, 0
	}
	n := len(m[0])
	switch {
	case m[1] != "" && n <= api.MaxName:
		if strings.Contains(" "+keys+" ", " "+m[1]+" ") {
			return key(at, m[1]), n
		}
		return name(at, m[1]), n
	case m[2] != "":
		if b, _ := new(big.Int).SetString(m[2], 10); b.IsInt64() {
			return number(at, m[2], b.Int64()), n
		}
	case m[3] != "" && !strings.HasPrefix(s[at+n:], "'"): // else it goes on, and is not ended
		if said := strings.ReplaceAll(m[3][1:n-1], "''", "'"); len(said) <= api.MaxText {
			return text(at, said), n
		}
	case m[4] != "":
		return mark(at, m[4]), n
	}
	return Word{}, 0
}

// byExpression tells where Split(s) or IsName(s) is not as the expression has it.
func byExpression(t *testing.T, s string) {
	t.Helper()
	var want []Word
	for at := 0; at < len(s); {
		if strings.IndexByte(" \t\n\r", s[at]) >= 0 {
			at++
			continue
		}
		w, n := wordAt(s, at)
		if n == 0 {
			fails(t, s, api.ErrText, at)
			return
		}
		want = append(want, w)
		at += n
	}
	splits(t, s, want...)
	if is := len(want) == 1 && want[0].Kind == Name && want[0].Text == s; is != IsName(s) {
		t.Errorf("IsName(%q): %t", s, !is)
	}
}

func TestAllTextsOfTwoBytes(t *testing.T) {
	for c := range 256 {
		byExpression(t, string([]byte{byte(c)}))
		for d := range 256 {
			byExpression(t, string([]byte{byte(c), byte(d)}))
		}
	}
}

// allTexts goes over every text of that many of these bytes.
func allTexts(bytes string, many int, do func(s string)) {
	if many == 0 {
		do("")
		return
	}
	allTexts(bytes, many-1, func(s string) {
		for i := range len(bytes) {
			do(s + bytes[i:i+1])
		}
	})
}

func TestAllShortTexts(t *testing.T) {
	for many := range 6 {
		allTexts("a1-'!=< _(", many, func(s string) { byExpression(t, s) })
	}
	for many := range 9 {
		allTexts("'a ", many, func(s string) { byExpression(t, s) })
		allTexts("is_", many, func(s string) { byExpression(t, s) })
		allTexts("-1 ", many, func(s string) { byExpression(t, s) })
	}
}

func TestTextsOfManyPieces(t *testing.T) {
	pieces := append(strings.Fields(keys+" ( ) [ ] , # = != < <= > >= + - a z9_ A _ ! ? ' '' ''' 'a''b' 0 007 -0 9223372036854775807 -9223372036854775808 9223372036854775808 \x00 \u00e9"),
		" ", "\t", "\n", "\r", "  ", "\v", strings.Repeat("n", api.MaxName-1), strings.Repeat("0", 19), strings.Repeat("x", 15), "'"+strings.Repeat("y", api.MaxText-1))
	r := rand.New(rand.NewSource(9))
	for range 50000 {
		s := ""
		for range 1 + r.Intn(8) {
			s += pieces[r.Intn(len(pieces))]
		}
		byExpression(t, s)
	}
}

// shown is w as it is written.
func shown(w Word) string {
	if w.Kind == String {
		return value.Show(value.Str(w.Text))
	}
	return w.Text
}

func TestWordsThatAreWrittenAgain(t *testing.T) {
	r := rand.New(rand.NewSource(10))
	pool := strings.Fields(keys + " ( ) [ ] , # = != < <= > >= + - a z9_ tt 0 007 -0 -12 9223372036854775807 '' '''' 'a''b' '?'")
	blanks := []string{" ", "\t", "\n", "\r", "  \r\n"}
	for range 2000 {
		s, want := "", []Word(nil)
		for range r.Intn(40) {
			one, err := Split(pool[r.Intn(len(pool))])
			if err != nil || len(one) != 1 {
				t.Fatal(one, err)
			}
			one[0].Pos = len(s)
			want = append(want, one[0])
			s += shown(one[0]) + blanks[r.Intn(len(blanks))]
		}
		splits(t, s, want...)
	}
}
