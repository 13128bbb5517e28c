package text_test

import (
	"strings"
	"testing"

	"graftwood/api"
	"graftwood/text"
)

func TestA2Data(t *testing.T) {
	reads(t, "")
	reads(t, "a", sym("a"))
	reads(t, "a b", sym("a"), sym("b"))
	reads(t, "()", list())
	reads(t, "(a (b) ())", list(sym("a"), list(sym("b")), list()))
	reads(t, "#t #f", truth(1), truth(0))
	reads(t, "12 -12 0", num(12), num(-12), num(0))
	reads(t, "- -- --1 +1 1- 1a .", sym("-"), sym("--"), sym("--1"), sym("+1"), sym("1-"), sym("1a"), sym("."))
	reads(t, letters[36:], sym(letters[36:]))
}

func TestA2Quote(t *testing.T) {
	reads(t, "'a", quoted(sym("a")))
	reads(t, "''a", quoted(quoted(sym("a"))))
	reads(t, "'()", quoted(list()))
	reads(t, "'(a 'b)", quoted(list(sym("a"), quoted(sym("b")))))
	reads(t, "'#t'1", quoted(truth(1)), quoted(num(1)))
	reads(t, "quote a", sym("quote"), sym("a"))
}

// What stands between data may stand between all else too, and need not.
func TestA2Between(t *testing.T) {
	reads(t, " \t\n")
	reads(t, "\n a\t\tb \n", sym("a"), sym("b"))
	reads(t, "( \n\ta\n)", list(sym("a")))
	reads(t, "' \n;c\n\ta", quoted(sym("a")))
	reads(t, "a(b)c'd#t#f'e", sym("a"), list(sym("b")), sym("c"), quoted(sym("d")), truth(1), truth(0), quoted(sym("e")))
	reads(t, "#t(#f)#t", truth(1), list(truth(0)), truth(1))
	reads(t, "()()", list(), list())
}

func TestA2Comments(t *testing.T) {
	reads(t, ";")
	reads(t, "; (a ' #x A \x00\xff\r")
	reads(t, ";;a\n;b;\nc", sym("c"))
	reads(t, "a;b\nc;d", sym("a"), sym("c"))
	reads(t, "#t;x", truth(1))
	reads(t, "(a ; )\n)", list(sym("a")))
}

func TestA2Wrong(t *testing.T) {
	for _, s := range []string{"#", "#x", "#tt", "#f1", "#t.", "##t", "# t", "#T", "#;\nt", "#(", "A", "\"x\"", ",a", "`a", "[", "\r", "\x00", "\xff", "\u00e9", "\v", "\f", "|"} {
		fails(t, s, api.ErrForm, 0)
		fails(t, " ("+s, api.ErrForm, 2)
		fails(t, "a '"+s, api.ErrForm, 3)
	}
	fails(t, "aA", api.ErrForm, 1)
	fails(t, "1\r\n2", api.ErrForm, 1)
}

func TestA3MissingData(t *testing.T) {
	fails(t, ")", api.ErrForm, 0)
	fails(t, "a )", api.ErrForm, 2)
	fails(t, "(a))", api.ErrForm, 3)
	fails(t, "(", api.ErrForm, 1)
	fails(t, "((a)", api.ErrForm, 4)
	fails(t, "(a \n", api.ErrForm, 4)
	fails(t, "(a ;)", api.ErrForm, 5)
	fails(t, "'", api.ErrForm, 1)
	fails(t, "a' ;b", api.ErrForm, 5)
	fails(t, "(a ')", api.ErrForm, 4)
	fails(t, "'' )", api.ErrForm, 3)
}

func TestA3Numbers(t *testing.T) {
	reads(t, "1000000000000000 -1000000000000000", num(api.MaxInt), num(-api.MaxInt))
	reads(t, "0012 -0 -007", num(12), num(0), num(-7))
	reads(t, "00000000000000017", num(17))
	reads(t, "-0000000000000017", num(-17))
	reads(t, "01000000000000000", num(api.MaxInt))
	fails(t, "1000000000000001", api.ErrRange, 0)
	fails(t, "(-1000000000000001", api.ErrRange, 1)
	fails(t, "99999999999999999", api.ErrRange, 0)
	fails(t, " 000000000000000017", api.ErrRange, 1)
	fails(t, "-00000000000000017", api.ErrRange, 0)
	fails(t, "'"+strings.Repeat("0", 5000), api.ErrRange, 1)
	fails(t, "1 "+strings.Repeat("9", 30), api.ErrRange, 2)
}

func TestA3Names(t *testing.T) {
	long := "abcdefghijklmnopqrst"
	dashes := strings.Repeat("-", api.MaxName)
	reads(t, long, sym(long))
	reads(t, long+"("+dashes+")", sym(long), list(sym(dashes)))
	reads(t, "1234567890123456789a", sym("1234567890123456789a"))
	fails(t, long+"u", api.ErrName, 0)
	fails(t, "(a '"+long+"0)", api.ErrName, 4)
	fails(t, dashes+"-", api.ErrName, 0)
	fails(t, "12345678901234567890a", api.ErrName, 0)
	fails(t, strings.Repeat("a", api.MaxText), api.ErrName, 0)
}

func TestA3Text(t *testing.T) {
	reads(t, strings.Repeat(" ", api.MaxText))
	reads(t, ";"+strings.Repeat("A", api.MaxText-1))
	reads(t, strings.Repeat(" ", api.MaxText-1)+"a", sym("a"))
	fails(t, strings.Repeat(" ", api.MaxText+1), api.ErrMuch, 0)
	fails(t, "A"+strings.Repeat(" ", api.MaxText), api.ErrMuch, 0)
	fails(t, strings.Repeat(")", 1<<20), api.ErrMuch, 0)
}

func TestA3Nodes(t *testing.T) {
	full := ones(api.MaxNodes)
	reads(t, full, repeat(num(1), api.MaxNodes)...)
	reads(t, "("+ones(api.MaxNodes-1)+")", list(repeat(num(1), api.MaxNodes-1)...))
	reads(t, "'a "+ones(api.MaxNodes-3), append(data(quoted(sym("a"))), repeat(num(1), api.MaxNodes-3)...)...)
	for _, s := range []string{"1", "a", "(", "'a", "#t", ")", "A", "#", "1000000000000001", strings.Repeat("a", api.MaxName+1)} {
		fails(t, full+s, api.ErrMuch, len(full))
	}
	fails(t, full+" ;c\n\tb", api.ErrMuch, len(full)+5)
	fails(t, "("+full+")", api.ErrMuch, len(full)-1)
	fails(t, "()"+full, api.ErrMuch, len(full))
	reads(t, full+" ;c", repeat(num(1), api.MaxNodes)...)
}

// The list and the symbol that ' makes are counted where it stands.
func TestA3NodesOfQuote(t *testing.T) {
	some := ones(api.MaxNodes - 1)
	fails(t, some+"'a", api.ErrMuch, len(some))
	some = ones(api.MaxNodes - 2)
	fails(t, some+"'a", api.ErrMuch, len(some)+1)
	fails(t, some+"'", api.ErrMuch, len(some)+1)
	fails(t, some+"'  ", api.ErrMuch, len(some)+3)
	fails(t, some+"')", api.ErrMuch, len(some)+1)
	fails(t, some+"''a", api.ErrMuch, len(some)+1)
	some = ones(api.MaxNodes - 3)
	fails(t, some+"'", api.ErrForm, len(some)+1)
	fails(t, some+"'A", api.ErrForm, len(some)+1)
	reads(t, some+"'a", append(repeat(num(1), api.MaxNodes-3), quoted(sym("a")))...)
}

// A list that is not ended misses its ), not a datum.
func TestA3OpenList(t *testing.T) {
	full := "(" + ones(api.MaxNodes-1)
	fails(t, full, api.ErrForm, len(full))
	fails(t, open(api.MaxDeep), api.ErrForm, api.MaxDeep)
}

func TestA3Deep(t *testing.T) {
	n := api.MaxDeep
	reads(t, open(n)+shut(n), nested(n))
	reads(t, open(n-1)+"a"+shut(n-1), nested(n-1, sym("a")))
	for _, s := range []string{"(", "a", "'a", "#t", "A", "#", "1000000000000001", strings.Repeat("a", api.MaxName+1)} {
		fails(t, open(n)+s, api.ErrMuch, n)
		fails(t, open(n)+" "+s+shut(n), api.ErrMuch, n+1)
	}
	fails(t, open(n)+shut(n)+")", api.ErrForm, 2*n)
	fails(t, strings.Repeat("(", api.MaxText), api.ErrMuch, n)
}

func TestA3DeepQuote(t *testing.T) {
	n := api.MaxDeep
	quotes := strings.Repeat("'", n-1)
	d := sym("a")
	for range n - 1 {
		d = quoted(d)
	}
	reads(t, quotes+"a", d)
	fails(t, quotes+"'a", api.ErrMuch, n-1)
	fails(t, quotes+"(a)", api.ErrMuch, n)
	fails(t, quotes, api.ErrForm, n-1)
	fails(t, open(n-1)+"'a", api.ErrMuch, n-1)
	reads(t, open(n-2)+"'a"+shut(n-2), nested(n-2, quoted(sym("a"))))
}

// Whichever is met first is told.
func TestA3First(t *testing.T) {
	long := strings.Repeat("a", api.MaxName+1)
	fails(t, "(A "+long, api.ErrForm, 1)
	fails(t, "("+long+" A", api.ErrName, 1)
	fails(t, "1000000000000001 "+long, api.ErrRange, 0)
	fails(t, long+" 1000000000000001", api.ErrName, 0)
	fails(t, "A"+open(api.MaxDeep+1), api.ErrForm, 0)
	fails(t, ")"+ones(api.MaxNodes), api.ErrForm, 0)
}

// Each text of a few bytes, alone and where hardly anything more may stand, is read as the other reader does.
func TestA3AllShort(t *testing.T) {
	heads := []string{"", "(", "'"}
	for less := range 4 {
		heads = append(heads, open(api.MaxDeep-less), ones(api.MaxNodes-less), "("+ones(api.MaxNodes-less))
	}
	for _, head := range heads {
		long := 4
		if len(head) > 1000 {
			long = 2 // it is not short to read
		}
		allOf("()'#ta1- ;\nA", long, func(s string) { asOther(t, head+s) })
	}
}

// allOf tells each text of at most so many of these bytes.
func allOf(bytes string, long int, tell func(string)) {
	var more func(string)
	more = func(s string) {
		tell(s)
		if len(s) == long {
			return
		}
		for i := range len(bytes) {
			more(s + bytes[i:i+1])
		}
	}
	more("")
}

func asOther(t *testing.T, s string) {
	l, f := text.Read(s)
	want, g := otherRead(s)
	if f != g || !same(l, want) {
		t.Fatalf("Read(%s) is %s %v, not %s %v", brief(s), brief(l), f, brief(want), g)
	}
}
