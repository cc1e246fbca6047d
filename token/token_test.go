package token

import (
	"math/big"
	"math/rand"
	"regexp"
	"slices"
	"strconv"
	"strings"
	"testing"
	"unsafe"

	"swage/api"
)

// The signs, as the chapter lists them.
const listed = "== != <= << >> ( ) { } [ ] , ; . = + - * / % & | ^ <"

const blanks = " \t\n\r"

func name(text string, at int) api.Token {
	return api.Token{Kind: api.TokName, Text: text, At: at}
}

func number(text string, at int) api.Token {
	return api.Token{Kind: api.TokNumber, Text: text, At: at}
}

func sign(text string, at int) api.Token {
	return api.Token{Kind: api.TokSign, Text: text, At: at}
}

func signs() []string { return strings.Fields(listed) }

// shown is a text as a failure tells it.
func shown(s string) string {
	if len(s) > 60 {
		return strconv.Quote(s[:60]) + ".. of " + strconv.Itoa(len(s)) + " bytes"
	}
	return strconv.Quote(s)
}

// cut fails the test if the tokens of s are not just those.
func cut(t *testing.T, s string, want ...api.Token) {
	t.Helper()
	got, at, err := Lex(s)
	if err != api.OK || at != len(s) || !slices.Equal(got, want) {
		t.Errorf("Lex(%s): %+v, %d, error %d; want %+v", shown(s), got[:min(len(got), 20)], at, err, want[:min(len(want), 20)])
	}
}

// refused fails the test if Lex does not tell that error there, and nothing beside it.
func refused(t *testing.T, s string, place int, want api.Errno) {
	t.Helper()
	got, at, err := Lex(s)
	if err != want || at != place || len(got) != 0 {
		t.Errorf("Lex(%s): %d tokens, %d, error %d; want %d, error %d", shown(s), len(got), at, err, place, want)
	}
}

func wants[T comparable](t *testing.T, what string, got, want T) {
	t.Helper()
	if got != want {
		t.Errorf("%s: %v; want %v", what, got, want)
	}
}

// P9.1: Name, Number, Sign

func TestNames(t *testing.T) {
	for _, s := range []string{
		"a", "z", "A", "Z", "_", "m", "Q", "__", "_1", "a1", "a_b", "A9z", "func", "a0123456789_z", strings.Repeat("x9_", 1<<16),
	} {
		wants(t, "Name of "+shown(s), Name(s), true)
	}
}

func TestWhatIsNoName(t *testing.T) {
	for _, s := range []string{
		"", " ", "1", "0", "1a", "9_", " a", "a ", "\ta", "a\t", "\na", "a\n", "\ra", "a\r", "a b", "a.b", "a-", "-a", "a$", "$a",
		"é", "aé", "éa", "a\x00", "\x00a", "a\x80", "\xffa", "a//", "ａ", "名",
	} {
		wants(t, "Name of "+shown(s), Name(s), false)
	}
}

func TestNamesByteForByte(t *testing.T) {
	for c := range 256 {
		letter := slices.Contains([]byte("abcdefghijklmnopqrstuvwxyzABCDEFGHIJKLMNOPQRSTUVWXYZ_"), byte(c))
		digit := slices.Contains([]byte("0123456789"), byte(c))
		s := string([]byte{byte(c)})
		wants(t, "Name of "+shown(s), Name(s), letter)
		wants(t, "Name of "+shown(s+"x"), Name(s+"x"), letter)
		wants(t, "Name of "+shown("x"+s), Name("x"+s), letter || digit)
		wants(t, "Name of "+shown("x"+s+"x"), Name("x"+s+"x"), letter || digit)
	}
}

func TestNumbers(t *testing.T) {
	for _, n := range []int{
		0, 1, 5, 9, 10, 19, 90, 99, 100, 1000, 65536, 1<<31 - 1, 1 << 31, 1 << 32, 1<<53 + 1, 1 << 62,
		922337203685477580, 922337203685477581, 999999999999999999, 1000000000000000000, api.MaxInt - 8, api.MaxInt - 7, api.MaxInt - 1, api.MaxInt,
	} {
		s := strconv.Itoa(n)
		got, is := Number(s)
		if got != n || !is {
			t.Errorf("Number(%s): %d, %v", s, got, is)
		}
	}
}

func TestWhatIsNoNumber(t *testing.T) {
	for _, s := range []string{
		"", " ", "00", "01", "007", "0000000000000000000000", "09223372036854775807", "-1", "+1", "-0", "1.0", "1e3", "0x1", "0b1", "0o7", "1_000", "_1",
		" 1", "1 ", "\t1", "1\t", "\n1", "1\n", "\r1", "1\r", "1 2", "a", "1a", "a1", "1/", "/1", "1:", ":1", "1\x00", "\x001", "1\x80", "\xb1", "١", "１", "1١",
		"9223372036854775808", "9223372036854775809", "9223372036854775810", "9223372036854775817", "9999999999999999999", "10000000000000000000",
		"18446744073709551615", "18446744073709551616", "18446744073709551617", "92233720368547758070", "36893488147419103233",
		"9223372036854775807" + "a", "a" + "9223372036854775807", "9223372036854775808a",
		strings.Repeat("9", 100), "1" + strings.Repeat("0", 1000), strings.Repeat("1", 1<<20), strings.Repeat("0", 1<<20),
	} {
		n, is := Number(s)
		if n != 0 || is {
			t.Errorf("Number(%s): %d, %v", shown(s), n, is)
		}
	}
}

func TestNumbersAboutTheEdges(t *testing.T) {
	edges := []string{"9223372036854775807", "18446744073709551616", "27670116110564327424", "92233720368547758070", "184467440737095516160", "1000000000000000000", "10000000000000000000"}
	for _, edge := range edges {
		middle, _ := new(big.Int).SetString(edge, 10)
		for d := int64(-200); d <= 200; d++ {
			b := new(big.Int).Add(middle, big.NewInt(d))
			n, is := Number(b.String())
			if is != b.IsInt64() || is && int64(n) != b.Int64() || !is && n != 0 {
				t.Errorf("Number(%s): %d, %v", b, n, is)
			}
		}
	}
}

func TestNumbersByteForByte(t *testing.T) {
	for c := range 256 {
		s := string([]byte{byte(c)})
		digit := '0' <= c && c <= '9'
		for _, x := range []string{s, "1" + s, "1" + s + "1", "12" + s} {
			n, is := Number(x)
			want := 0
			if digit {
				want, _ = strconv.Atoi(x)
			}
			if is != digit || n != want {
				t.Errorf("Number(%s): %d, %v", shown(x), n, is)
			}
		}
	}
}

func TestSigns(t *testing.T) {
	if len(signs()) != 24 {
		t.Fatalf("these are not the chapter's signs: %v", signs())
	}
	for _, s := range signs() {
		wants(t, "Sign of "+shown(s), Sign(s), true)
		for _, c := range blanks {
			wants(t, "Sign of one with a blank behind it", Sign(s+string(c)), false)
			wants(t, "Sign of one with a blank ahead of it", Sign(string(c)+s), false)
		}
	}
}

func TestWhatIsNoSign(t *testing.T) {
	for _, s := range []string{
		"", " ", "\n", "!", ">", ">=", "=>", "=<", "=!", "<>", "><", "&&", "||", "^^", "++", "--", "+=", "-=", "->", "**", "//", "/*", "*/", "()", "[]", "{}", "..", ";;", ",,", "%%",
		"===", "!==", "<<=", ">>=", "<<<", ">>>", "<==", "(((", "a", "1", "_", ":", ":=", "@", "#", "$", "?", "~", "`", "'", "\"", "\\", "\x00", "\x7f", "\x80", "\xff", "«", "≤", "a=", "=a", "< <", "= =",
	} {
		wants(t, "Sign of "+shown(s), Sign(s), false)
	}
}

func TestSignsOfOneAndTwoAndThreeBytes(t *testing.T) {
	for a := range 256 {
		one := string([]byte{byte(a)})
		wants(t, "Sign of "+shown(one), Sign(one), slices.Contains(signs(), one))
	}
	for a := range 256 {
		for b := range 256 {
			two := string([]byte{byte(a), byte(b)})
			if Sign(two) != slices.Contains(signs(), two) {
				t.Errorf("Sign of %s: %v", shown(two), Sign(two))
			}
		}
	}
	for _, s := range signs() {
		for _, x := range signs() {
			if len(s+x) > 2 {
				wants(t, "Sign of "+shown(s+x), Sign(s+x), false)
			}
		}
	}
}

// P9.2: ordinary texts

func TestTheChaptersExample(t *testing.T) {
	cut(t, "a1<=23; // x", name("a1", 0), sign("<=", 2), number("23", 4), sign(";", 6))
}

func TestTheDocumentsExample(t *testing.T) {
	cut(t, "func main() { var a [3]int; a[2] = read; print a[2] * 2; }",
		name("func", 0), name("main", 5), sign("(", 9), sign(")", 10), sign("{", 12),
		name("var", 14), name("a", 18), sign("[", 20), number("3", 21), sign("]", 22), name("int", 23), sign(";", 26),
		name("a", 28), sign("[", 29), number("2", 30), sign("]", 31), sign("=", 33), name("read", 35), sign(";", 39),
		name("print", 41), name("a", 47), sign("[", 48), number("2", 49), sign("]", 50), sign("*", 52), number("2", 54), sign(";", 55), sign("}", 57))
}

func TestBlanksBetween(t *testing.T) {
	cut(t, "a b", name("a", 0), name("b", 2))
	cut(t, "a 1", name("a", 0), number("1", 2))
	cut(t, "1 a", number("1", 0), name("a", 2))
	cut(t, "1 2", number("1", 0), number("2", 2))
	cut(t, "0 0 0", number("0", 0), number("0", 2), number("0", 4))
	cut(t, "= =", sign("=", 0), sign("=", 2))
	cut(t, "< <", sign("<", 0), sign("<", 2))
	cut(t, "< =", sign("<", 0), sign("=", 2))
	cut(t, "/ /", sign("/", 0), sign("/", 2))
	cut(t, " \t\r\n a\n\n\r\t b \n", name("a", 5), name("b", 11))
	for _, c := range blanks {
		cut(t, "a"+string(c)+"1"+string(c)+"="+string(c), name("a", 0), number("1", 2), sign("=", 4))
		cut(t, string(c)+"a", name("a", 1))
		cut(t, string(c)+"1", number("1", 1))
		cut(t, string(c)+"<", sign("<", 1))
	}
}

func TestNoBlanksBetween(t *testing.T) {
	cut(t, "a+1-b*2/c%3&d|4^e", name("a", 0), sign("+", 1), number("1", 2), sign("-", 3), name("b", 4), sign("*", 5), number("2", 6), sign("/", 7),
		name("c", 8), sign("%", 9), number("3", 10), sign("&", 11), name("d", 12), sign("|", 13), number("4", 14), sign("^", 15), name("e", 16))
	cut(t, "x.0.1=-7", name("x", 0), sign(".", 1), number("0", 2), sign(".", 3), number("1", 4), sign("=", 5), sign("-", 6), number("7", 7))
	cut(t, "a<<3>>b", name("a", 0), sign("<<", 1), number("3", 3), sign(">>", 4), name("b", 6))
	cut(t, "a!=b==c<d", name("a", 0), sign("!=", 1), name("b", 3), sign("==", 4), name("c", 6), sign("<", 7), name("d", 8))
	cut(t, "f(a,b);", name("f", 0), sign("(", 1), name("a", 2), sign(",", 3), name("b", 4), sign(")", 5), sign(";", 6))
}

func TestNamesAsLongAsCanBe(t *testing.T) {
	for _, s := range []string{"a", "_", "Z", "a0", "a00", "x1y2_3", "__1__", "abcdefghijklmnopqrstuvwxyzABCDEFGHIJKLMNOPQRSTUVWXYZ_0123456789"} {
		cut(t, s, name(s, 0))
		cut(t, s+" ", name(s, 0))
		cut(t, "("+s+")", sign("(", 0), name(s, 1), sign(")", 1+len(s)))
	}
}

func TestNumbersAsLongAsCanBe(t *testing.T) {
	for _, s := range []string{"0", "1", "9", "10", "1234567890", "1000000000000000000", "9223372036854775806", "9223372036854775807"} {
		cut(t, s, number(s, 0))
		cut(t, s+"\n", number(s, 0))
		cut(t, "["+s+"]", sign("[", 0), number(s, 1), sign("]", 1+len(s)))
	}
}

// P9.2: // rows

func TestRows(t *testing.T) {
	for _, s := range []string{"//", "// x", "//x\n", "///", "////", "// //", "//\n", "//\n//", "//a\n//b\n", " // 01 $ ! > é\x00\xff \n ", "//\t\r", "\n//\n\n//\n", "// \"", "// a = 1; \r\n", "//\r\n"} {
		cut(t, s)
		cut(t, "a"+s, name("a", 0))
		cut(t, "1"+s, number("1", 0))
		cut(t, "="+s, sign("=", 0))
		cut(t, s+"\na", name("a", len(s)+1))
		cut(t, "b"+s+"\n7", name("b", 0), number("7", len(s)+2))
	}
}

func TestRowsEndAtALineFeedAlone(t *testing.T) {
	cut(t, "// a\nb", name("b", 5))
	cut(t, "// a\r b")
	cut(t, "// a\rb\nc", name("c", 7))
	cut(t, "a // b\n// c\nd // e", name("a", 0), name("d", 12))
	cut(t, "a//b//c\nd", name("a", 0), name("d", 8))
	refused(t, "// $\n$", 5, api.ErrForm)
	refused(t, "// 01\n01", 6, api.ErrForm)
}

func TestSlashes(t *testing.T) {
	cut(t, "/", sign("/", 0))
	cut(t, "a/", name("a", 0), sign("/", 1))
	cut(t, "a /", name("a", 0), sign("/", 2))
	cut(t, "/a", sign("/", 0), name("a", 1))
	cut(t, "/1", sign("/", 0), number("1", 1))
	cut(t, "/ ", sign("/", 0))
	cut(t, "/\n", sign("/", 0))
	cut(t, "/\n/", sign("/", 0), sign("/", 2))
	cut(t, "/*a*/", sign("/", 0), sign("*", 1), name("a", 2), sign("*", 3), sign("/", 4))
	cut(t, "*//", sign("*", 0))
	cut(t, "/ // x", sign("/", 0))
	for _, s := range signs() {
		if s != "/" {
			cut(t, "/"+s, sign("/", 0), sign(s, 1))
			cut(t, s+"/", sign(s, 0), sign("/", len(s)))
			cut(t, s+"//", sign(s, 0))
		}
	}
}

// P9.2: signs

func TestEachSignAloneAndAtTheEnd(t *testing.T) {
	for _, s := range signs() {
		cut(t, s, sign(s, 0))
		cut(t, "a"+s, name("a", 0), sign(s, 1))
		cut(t, "1"+s, number("1", 0), sign(s, 1))
		cut(t, "a "+s, name("a", 0), sign(s, 2))
		cut(t, s+"a", sign(s, 0), name("a", len(s)))
		cut(t, s+"1", sign(s, 0), number("1", len(s)))
		cut(t, ";"+s, sign(";", 0), sign(s, 1))
	}
}

func TestTheLongestSign(t *testing.T) {
	cut(t, "==", sign("==", 0))
	cut(t, "===", sign("==", 0), sign("=", 2))
	cut(t, "====", sign("==", 0), sign("==", 2))
	cut(t, "=====", sign("==", 0), sign("==", 2), sign("=", 4))
	cut(t, "<=", sign("<=", 0))
	cut(t, "<==", sign("<=", 0), sign("=", 2))
	cut(t, "<<=", sign("<<", 0), sign("=", 2))
	cut(t, "<<<", sign("<<", 0), sign("<", 2))
	cut(t, "<<<=", sign("<<", 0), sign("<=", 2))
	cut(t, "<<<<", sign("<<", 0), sign("<<", 2))
	cut(t, "=<", sign("=", 0), sign("<", 1))
	cut(t, "=<=", sign("=", 0), sign("<=", 1))
	cut(t, "=<<", sign("=", 0), sign("<<", 1))
	cut(t, "==<", sign("==", 0), sign("<", 2))
	cut(t, ">>=", sign(">>", 0), sign("=", 2))
	cut(t, ">>>>", sign(">>", 0), sign(">>", 2))
	cut(t, "=>>", sign("=", 0), sign(">>", 1))
	cut(t, "!==", sign("!=", 0), sign("=", 2))
	cut(t, "!=<", sign("!=", 0), sign("<", 2))
	cut(t, "=!=", sign("=", 0), sign("!=", 1))
	cut(t, "&&||", sign("&", 0), sign("&", 1), sign("|", 2), sign("|", 3))
}

func TestTheBeginningOfALongerSignAtTheEnd(t *testing.T) {
	cut(t, "a=", name("a", 0), sign("=", 1))
	cut(t, "a<", name("a", 0), sign("<", 1))
	refused(t, "a>", 1, api.ErrForm)
	refused(t, "a!", 1, api.ErrForm)
	refused(t, ">>>", 2, api.ErrForm)
}

func TestWhatBeginsNoToken(t *testing.T) {
	for _, s := range []string{">", "!", ">=", ">a", "> >", "> =", "! =", "!!", "!>", "!a", "!<", ">)", ">!=", "!//", "> // x"} {
		refused(t, s, 0, api.ErrForm)
		refused(t, "ab "+s, 3, api.ErrForm)
		refused(t, "1;"+s, 2, api.ErrForm)
		refused(t, "// $\n "+s, 6, api.ErrForm)
	}
	refused(t, "a > b", 2, api.ErrForm)
	refused(t, "=>", 1, api.ErrForm)
	refused(t, "<>", 1, api.ErrForm)
	refused(t, ">>>=", 2, api.ErrForm)
	refused(t, "é", 0, api.ErrForm)
	refused(t, "aé", 1, api.ErrForm)
	refused(t, "a1é", 2, api.ErrForm)
	refused(t, "1é", 1, api.ErrForm)
}

func TestEachByte(t *testing.T) {
	for c := range 256 {
		s := string([]byte{byte(c)})
		switch {
		case strings.Contains(blanks, s):
			cut(t, s)
			cut(t, "a"+s+"b", name("a", 0), name("b", 2))
			cut(t, "1"+s+"2", number("1", 0), number("2", 2))
			cut(t, "="+s+"=", sign("=", 0), sign("=", 2))
		case Name(s):
			cut(t, s, name(s, 0))
			cut(t, "a"+s+"b", name("a"+s+"b", 0))
			refused(t, "1"+s+"2", 0, api.ErrForm)
			cut(t, "="+s+"=", sign("=", 0), name(s, 1), sign("=", 2))
		case '0' <= c && c <= '9':
			cut(t, s, number(s, 0))
			cut(t, "a"+s+"b", name("a"+s+"b", 0))
			cut(t, "1"+s+"2", number("1"+s+"2", 0))
			cut(t, "="+s+"=", sign("=", 0), number(s, 1), sign("=", 2))
		case slices.Contains(signs(), s):
			cut(t, s, sign(s, 0))
			cut(t, "a"+s+"b", name("a", 0), sign(s, 1), name("b", 2))
			cut(t, "1"+s+"2", number("1", 0), sign(s, 1), number("2", 2))
			cut(t, ";"+s+";", sign(";", 0), sign(s, 1), sign(";", 2))
		default:
			refused(t, s, 0, api.ErrForm)
			refused(t, "a"+s+"b", 1, api.ErrForm)
			refused(t, "1"+s+"2", 1, api.ErrForm)
			refused(t, "; "+s+" ;", 2, api.ErrForm)
			refused(t, "a\n"+s, 2, api.ErrForm)
		}
		cut(t, "a//"+s+"\nb", name("a", 0), name("b", 5))
	}
}

// P9.2: rows of digits

func TestNumbersThatMayNotBe(t *testing.T) {
	for _, s := range []string{
		"00", "01", "000", "007", "0123456789", "09223372036854775807", "9223372036854775808", "9223372036854775810", "10000000000000000000", "18446744073709551616", "18446744073709551617",
		strings.Repeat("9", 100), strings.Repeat("1", 60000), strings.Repeat("0", 60000), "1a", "0a", "0x1", "1_", "1_000", "12e3", "9223372036854775807a", "9223372036854775808a", "01a", "1Z", "10z9",
	} {
		refused(t, s, 0, api.ErrForm)
		refused(t, s+" ", 0, api.ErrForm)
		refused(t, s+";", 0, api.ErrForm)
		refused(t, " "+s, 1, api.ErrForm)
		refused(t, "a = "+s, 4, api.ErrForm)
		refused(t, "-"+s, 1, api.ErrForm)
		refused(t, "7 "+s, 2, api.ErrForm)
		refused(t, "//\n"+s, 3, api.ErrForm)
		cut(t, "a"+s, name("a"+s, 0)) // behind a letter digits are of the name
	}
}

func TestErrorsBehindGoodTokens(t *testing.T) {
	refused(t, "a b c $ d", 6, api.ErrForm)
	refused(t, "a $ 01 !", 2, api.ErrForm) // the first one
	refused(t, "a 01 $", 2, api.ErrForm)
	refused(t, "a\n\n\t@", 4, api.ErrForm)
	refused(t, strings.Repeat("a ", 1000)+"?", 2000, api.ErrForm)
	refused(t, strings.Repeat(";", api.MaxText-1)+"#", api.MaxText-1, api.ErrForm)
	refused(t, strings.Repeat(" ", api.MaxText-2)+"01", api.MaxText-2, api.ErrForm)
}

// P9.2: the edges of texts

func TestTextsOfNothing(t *testing.T) {
	cut(t, "")
	for _, c := range blanks {
		cut(t, string(c))
		cut(t, strings.Repeat(string(c), 100))
		cut(t, strings.Repeat(string(c), api.MaxText))
	}
	cut(t, blanks+blanks)
	cut(t, "//"+strings.Repeat("x", api.MaxText-2))
	cut(t, strings.Repeat("//\n", api.MaxText/3))
	for _, c := range []string{"\v", "\f", "\x00", "\u0085", "\u00a0", "\u2028", "\ufeff"} { // blanks elsewhere, none here
		refused(t, c, 0, api.ErrForm)
		refused(t, " "+c, 1, api.ErrForm)
	}
}

func TestMaxText(t *testing.T) {
	for _, size := range []int{api.MaxText - 1, api.MaxText} {
		long := strings.Repeat("a", size)
		cut(t, long, name(long, 0))
		cut(t, strings.Repeat(" ", size-1)+"7", number("7", size-1))
		cut(t, strings.Repeat(" ", size-2)+"==", sign("==", size-2))
		var want []api.Token
		for i := range size {
			want = append(want, sign("(", i))
		}
		cut(t, strings.Repeat("(", size), want...)
		refused(t, strings.Repeat("1", size), 0, api.ErrForm)
		refused(t, strings.Repeat("$", size), 0, api.ErrForm)
	}
}

func TestMoreThanMaxText(t *testing.T) {
	for _, size := range []int{api.MaxText + 1, api.MaxText + 2, 2 * api.MaxText, 1 << 20} {
		for _, s := range []string{"a", " ", "(", "1", "0", "$", "!", "/", "\n", "\x00", "\xff", "a ", "a;"} {
			refused(t, strings.Repeat(s, size)[:size], api.MaxText, api.ErrFull)
		}
	}
}

// P9.3: Join

func TestJoin(t *testing.T) {
	wants(t, "Join of nil", Join(nil), "")
	wants(t, "Join of no token", Join([]api.Token{}), "")
	wants(t, "Join of one", Join([]api.Token{name("abc", 7)}), "abc")
	wants(t, "Join of two", Join([]api.Token{sign("/", 0), sign("/", 1)}), "/ /")
	wants(t, "Join of many", Join([]api.Token{name("a1", 0), sign("<=", 2), number("23", 4), sign(";", 6)}), "a1 <= 23 ;")
	many := make([]api.Token, 100000)
	for i := range many {
		many[i] = number("12", 0)
	}
	wants(t, "Join of 100000", Join(many), strings.Repeat("12 ", 99999)+"12")
}

func TestJoinTellsTextsAlone(t *testing.T) {
	wants(t, "Join of other kinds and places", Join([]api.Token{{Kind: -1, Text: "b", At: 9}, {Kind: 77, Text: "a", At: -3}, {Text: "c", At: api.MaxInt}}), "b a c")
	wants(t, "Join of an empty text", Join([]api.Token{{}}), "")
	wants(t, "Join of two empty texts", Join([]api.Token{{}, {}}), " ")
	wants(t, "Join with empty texts", Join([]api.Token{{}, {Text: "a"}, {}, {Text: "b"}, {}}), " a  b ")
	wants(t, "Join of texts that are no tokens", Join([]api.Token{{Text: "\xff\x00"}, {Text: " "}, {Text: "// x\n"}, {Text: "é"}}), "\xff\x00   // x\n é")
}

// P9.5: against tokens cut plainly

var (
	plainGap   = regexp.MustCompile(`^(?s:[ \t\n\r]|//[^\n]*(?:\n|$))*`)
	plainName  = regexp.MustCompile(`^[a-zA-Z_][a-zA-Z_0-9]*`)
	plainRow   = regexp.MustCompile(`^[0-9]+`)
	plainRight = regexp.MustCompile(`^(0|[1-9][0-9]*)$`)
)

// plainSign answers the longest of the signs that s begins with.
func plainSign(s string) string {
	best := ""
	for _, x := range signs() {
		if strings.HasPrefix(s, x) && len(x) > len(best) {
			best = x
		}
	}
	return best
}

// plainNumber tells whether a row of digits with that behind it may stand there.
func plainNumber(row, behind string) bool {
	n, is := new(big.Int).SetString(row, 10)
	return is && plainRight.MatchString(row) && n.IsInt64() && !plainName.MatchString(behind)
}

// plainLex cuts a text as the chapter's words have it.
func plainLex(s string) ([]api.Token, int, api.Errno) {
	if len(s) > api.MaxText {
		return nil, api.MaxText, api.ErrFull
	}
	var l []api.Token
	for at := 0; ; {
		at += len(plainGap.FindString(s[at:]))
		rest := s[at:]
		if rest == "" {
			return l, at, api.OK
		}
		x := name(plainName.FindString(rest), at)
		if x.Text == "" {
			x = number(plainRow.FindString(rest), at)
			if x.Text != "" && !plainNumber(x.Text, rest[len(x.Text):]) {
				return nil, at, api.ErrForm
			}
		}
		if x.Text == "" {
			x = sign(plainSign(rest), at)
		}
		if x.Text == "" {
			return nil, at, api.ErrForm
		}
		l = append(l, x)
		at += len(x.Text)
	}
}

// stands fails the test if a token does not stand where it says, or is none of its kind, or if something else stands between.
func stands(t *testing.T, s string, l []api.Token) {
	t.Helper()
	end := 0
	for _, x := range l {
		if x.At < end || x.At+len(x.Text) > len(s) || s[x.At:x.At+len(x.Text)] != x.Text {
			t.Fatalf("Lex(%s): %+v does not stand there", shown(s), x)
		}
		gap := s[end:x.At]
		if plainGap.FindString(gap) != gap {
			t.Fatalf("Lex(%s): %s stands ahead of %+v", shown(s), shown(gap), x)
		}
		end = x.At + len(x.Text)
		_, isNumber := Number(x.Text)
		if is := [3]bool{Name(x.Text), isNumber, Sign(x.Text)}; is != [3]bool{x.Kind == api.TokName, x.Kind == api.TokNumber, x.Kind == api.TokSign} {
			t.Fatalf("Lex(%s): %+v is of another kind: %v", shown(s), x, is)
		}
	}
	if gap := s[end:]; plainGap.FindString(gap) != gap {
		t.Fatalf("Lex(%s): %s stands at the end", shown(s), shown(gap))
	}
}

// again fails the test if Lex of Join of the tokens is not these, at the places that Join gives them.
func again(t *testing.T, l []api.Token) {
	t.Helper()
	joined := Join(l)
	want := slices.Clone(l)
	at := 0
	for i := range want {
		want[i].At = at
		at += len(want[i].Text) + 1
	}
	cut(t, joined, want...)
}

// alike fails the test if s is not cut as it is plainly; it tells whether there was no error.
func alike(t *testing.T, s string) bool {
	t.Helper()
	got, at, err := Lex(s)
	want, wantAt, wantErr := plainLex(s)
	if err != wantErr || at != wantAt || !slices.Equal(got, want) {
		t.Fatalf("Lex(%s): %+v, %d, error %d; want %+v, %d, error %d", shown(s), got, at, err, want, wantAt, wantErr)
	}
	if err == api.OK {
		stands(t, s, got)
		again(t, got)
	}
	return err == api.OK
}

// eachText does all texts of up to that many of the parts.
func eachText(t *testing.T, parts []string, many int) {
	t.Helper()
	var grow func(s string, left int)
	grow = func(s string, left int) {
		alike(t, s)
		if left == 0 {
			return
		}
		for _, p := range parts {
			grow(s+p, left-1)
		}
	}
	grow("", many)
}

func TestAllTextsOfFewBytes(t *testing.T) {
	bytes := make([]string, 256)
	for c := range bytes {
		bytes[c] = string([]byte{byte(c)})
	}
	eachText(t, bytes, 2)
	eachText(t, strings.Split("a_017 \n/=<>!(", ""), 4)
	eachText(t, strings.Split("/\n a", ""), 7)
	eachText(t, strings.Split("=<>!", ""), 7)
	eachText(t, strings.Split("a01 ", ""), 7)
}

// parts are what texts are made of: the signs, and what else may and may not stand in one.
func parts(wrong bool) []string {
	l := append(signs(), " ", "\t", "\n", "\r", "  ", "//", "// x\n", "//\n", "// $ 01 > \n", "a", "Z", "_", "b2", "x_1", "func", "0", "1", "9", "10", "42", "9223372036854775807", " ", "\n")
	if wrong {
		l = append(l, "!", ">", "$", "\x00", "\x80", "\xff", "é", "00", "9223372036854775808", "1a")
	}
	return l
}

// randomText answers a text of up to that many parts; apart, a blank stands between most of them, so that most texts are fine.
func randomText(r *rand.Rand, parts []string, many int, apart bool) string {
	var b strings.Builder
	for range r.Intn(many + 1) {
		b.WriteString(parts[r.Intn(len(parts))])
		if apart && r.Intn(50) > 0 {
			b.WriteByte(blanks[r.Intn(4)])
		}
	}
	return b.String()
}

func TestManyTexts(t *testing.T) {
	r := rand.New(rand.NewSource(9))
	fine := 0
	for round := range 12000 {
		s := randomText(r, parts(round%5 == 0), 1+round%60, round%2 == 0)
		if alike(t, s) {
			fine++
		}
	}
	if fine < 4000 {
		t.Errorf("only %d of these texts have no error", fine)
	}
}

func TestManyTextsOfBytes(t *testing.T) {
	r := rand.New(rand.NewSource(95))
	for range 5000 {
		b := make([]byte, r.Intn(40))
		for i := range b {
			b[i] = byte(r.Intn(256))
		}
		alike(t, string(b))
	}
}

func TestGreatTexts(t *testing.T) {
	r := rand.New(rand.NewSource(59))
	fine := parts(false)
	for range 10 {
		var b strings.Builder
		for b.Len() < api.MaxText/2-100 {
			b.WriteString(fine[r.Intn(len(fine))])
			b.WriteByte(' ')
		}
		wants(t, "a great text is fine", alike(t, b.String()), true)
	}
}

// The tokens of a text need more room than it, with a blank between any two: beyond MaxText Lex tells so.
func TestJoinedBeyondMaxText(t *testing.T) {
	l, _, err := Lex(strings.Repeat("(", api.MaxText/2+1))
	if err != api.OK {
		t.Fatalf("Lex: error %d", err)
	}
	refused(t, Join(l), api.MaxText, api.ErrFull)
	again(t, l[:api.MaxText/2])
}

// P9.4: memory

// spoil changes a list, and what room there is behind it.
func spoil(l []api.Token) {
	l = l[:cap(l)]
	for i := range l {
		l[i] = api.Token{Kind: -9, Text: "spoilt", At: -9}
	}
}

const memoryText = "a1<=23; b = c[4] << 5; // x\n}"

func TestChangedAnswersChangeNoLaterOnes(t *testing.T) {
	want, _, _ := plainLex(memoryText)
	first, _, _ := Lex(memoryText)
	second, _, _ := Lex(memoryText)
	spoil(first)
	if !slices.Equal(second, want) {
		t.Errorf("one Lex changed with another: %+v", second)
	}
	cut(t, memoryText, want...)
	second = append(second, name("more", 99))
	spoil(second)
	cut(t, memoryText, want...)
}

func TestLaterCallsChangeNoAnswer(t *testing.T) {
	want, _, _ := plainLex(memoryText)
	l, _, _ := Lex(memoryText)
	joined := Join(l)
	wantJoined := strings.Clone(joined)
	l = l[:cap(l)]
	whole := slices.Clone(l)
	r := rand.New(rand.NewSource(94))
	for range 500 {
		other, _, _ := Lex(randomText(r, parts(false), 20, true))
		Join(other)
		spoil(other)
	}
	Lex("$")
	Lex(strings.Repeat("a", api.MaxText+1))
	if !slices.Equal(l, whole) || !slices.Equal(l[:len(want)], want) {
		t.Errorf("later calls changed what Lex answered: %+v", l)
	}
	wants(t, "what Join answered, behind later calls", joined, wantJoined)
}

func TestJoinLeavesTheTokensAsTheyAre(t *testing.T) {
	l := make([]api.Token, 0, 8)
	l = append(l, name("a", 0), sign("=", 1), number("7", 2))
	whole := slices.Clone(l[:8])
	joined := Join(l)
	if !slices.Equal(l[:8], whole) {
		t.Errorf("Join changed its tokens: %+v", l[:8])
	}
	spoil(l)
	wants(t, "what Join answered, its tokens changed", joined, "a = 7")
}

// shares tells whether two texts have a byte of memory in common.
func shares(a, b string) bool {
	if a == "" || b == "" {
		return false
	}
	x, y := uintptr(unsafe.Pointer(unsafe.StringData(a))), uintptr(unsafe.Pointer(unsafe.StringData(b)))
	return x < y+uintptr(len(b)) && y < x+uintptr(len(a))
}

func TestTextsShareNoMemory(t *testing.T) {
	s := string([]byte(memoryText))
	l, _, _ := Lex(s)
	for _, x := range l {
		wants(t, "the text and "+x.Text+" share memory", shares(s, x.Text), false)
		wants(t, "Join of "+x.Text+" shares memory with it", shares(Join([]api.Token{x}), x.Text), false)
		wants(t, "Join of one and an empty text shares memory", shares(Join([]api.Token{x, {}}), x.Text), false)
	}
	joined := Join(l)
	for _, x := range l {
		wants(t, "Join of all shares memory with "+x.Text, shares(joined, x.Text), false)
	}
	whole := string([]byte("wholetext"))
	l, _, _ = Lex(whole) // one token that is all of the text
	wants(t, "the whole text and its token share memory", shares(whole, l[0].Text), false)
}

// W2: what is answered hangs on the text alone

func TestTheSameTextIsCutAlike(t *testing.T) {
	r := rand.New(rand.NewSource(92))
	var texts []string
	for range 100 {
		texts = append(texts, randomText(r, parts(true), 10, true))
	}
	type told struct {
		joined string
		at     int
		err    api.Errno
	}
	tell := func(s string) told {
		l, at, err := Lex(s)
		return told{Join(l), at, err}
	}
	var first []told
	for _, s := range texts {
		first = append(first, tell(s))
	}
	for range 3 {
		for _, i := range r.Perm(len(texts)) {
			wants(t, "Lex again of "+shown(texts[i]), tell(texts[i]), first[i])
		}
	}
}

// The iterator stops where one stops, and tells nothing behind an error.
func TestTokensStopped(t *testing.T) {
	for stop := 1; stop <= 5; stop++ {
		calls := 0
		tokens("a = 7 ; b")(func(api.Token, api.Errno) bool {
			calls++
			return calls < stop
		})
		wants(t, "tokens, stopped", calls, stop)
	}
	var errs []api.Errno
	for x, err := range tokens("a 01 b $") {
		errs = append(errs, err)
		if err != api.OK && x != (api.Token{At: 2}) {
			t.Errorf("beside an error: %+v", x)
		}
	}
	if !slices.Equal(errs, []api.Errno{api.OK, api.ErrForm}) {
		t.Errorf("errors: %v", errs)
	}
}
