package lexer_test

import (
	"reflect"
	"slices"
	"strconv"
	"strings"
	"testing"

	"nursery/api"
	"nursery/expr"
	"nursery/lexer"
)

// brief returns a string, cut if it is long.
func brief(s string) string {
	return s[:min(len(s), 120)]
}

// isZero reports whether e is the zero expression.
func isZero(e api.Expr) bool {
	return e.Kind == 0 && e.Op == 0 && e.Name == "" && e.Value == 0 && len(e.Args) == 0
}

// text returns the text of a valid expression.
func text(t *testing.T, e api.Expr) string {
	t.Helper()
	s, err := expr.Print(e)
	if err != api.OK {
		t.Fatalf("Print(%v): %q, %d", e, s, err)
	}
	return s
}

// tokens returns the tokens of a text that has no error.
func tokens(t *testing.T, s string) []api.Token {
	t.Helper()
	l, at, err := lexer.Tokens(s)
	if at != 0 || err != api.OK {
		t.Fatalf("Tokens(%q): %v, %d, %d", brief(s), l, at, err)
	}
	return l
}

// parse returns the expression with a text that has no error.
func parse(t *testing.T, s string) api.Expr {
	t.Helper()
	e, at, err := lexer.Parse(s)
	if at != 0 || err != api.OK {
		t.Fatalf("Parse(%q): %v, %d, %d", brief(s), e, at, err)
	}
	return e
}

func checkTokens(t *testing.T, s string) api.Errno {
	t.Helper()
	want, wantAt, wantErr := expectedTokens(s)
	if l, at, err := lexer.Tokens(s); !slices.Equal(l, want) || at != wantAt || err != wantErr {
		t.Errorf("P10.1: Tokens(%q): %v, %d, %d instead of %v, %d, %d", brief(s), l, at, err, want, wantAt, wantErr)
	}
	return wantErr
}

func checkExpr(t *testing.T, l []api.Token) api.Errno {
	t.Helper()
	want, wantN, wantErr := expectedExpr(l)
	if e, n, err := lexer.Expr(l); !reflect.DeepEqual(e, want) || n != wantN || err != wantErr {
		t.Errorf("P10.1: Expr(%v): %v, %d, %d instead of %v, %d, %d", l[:min(len(l), 30)], e, n, err, want, wantN, wantErr)
	}
	return wantErr
}

func checkParse(t *testing.T, s string) api.Errno {
	t.Helper()
	want, wantAt, wantErr := expectedParse(s)
	if e, at, err := lexer.Parse(s); !reflect.DeepEqual(e, want) || at != wantAt || err != wantErr {
		t.Errorf("P10.1: Parse(%q): %v, %d, %d instead of %v, %d, %d", brief(s), e, at, err, want, wantAt, wantErr)
	}
	return wantErr
}

// TestModel compares the model that the other tests use with the definition, for all short lists of tokens, and some longer ones.
func TestModel(t *testing.T) {
	counts := map[bool]int{}
	check := func(l []api.Token) {
		want, wantN, wantOK := definedRead(l)
		if e, n, ok := expectedRead(l); !reflect.DeepEqual(e, want) || n != wantN || ok != wantOK {
			t.Fatalf("%v: %v, %d, %t instead of %v, %d, %t", l, e, n, ok, want, wantN, wantOK)
		}
		counts[wantOK]++
	}
	for n := range 4 {
		lists(alphabet, n, check)
	}
	next := randoms(2)
	for range 1500 {
		l := make([]api.Token, 4+next(6))
		for i := range l {
			l[i] = alphabet[next(len(alphabet))]
			if e, n, ok := expectedRead(l[:i]); !ok && n == i {
				l[i] = alphabet[next(6)]
			} else if ok && !isZero(e) {
				l[i] = alphabet[5+next(7)]
			}
		}
		check(l)
	}
	if counts[true] < 400 || counts[false] < 400 {
		t.Errorf("%v lists", counts)
	}
}

func TestP10_1TokensExamples(t *testing.T) {
	for s, want := range map[string][]api.Token{
		"":                        {{At: 0}},
		" \t\n":                   {{At: 3}},
		"#":                       {{At: 1}},
		"# a b":                   {{At: 5}},
		"#\n":                     {{At: 2}},
		"##\n#":                   {{At: 4}},
		"x<=10 # end":             {{Kind: 1, Text: "x"}, {Kind: 3, Text: "<=", At: 1}, {Kind: 2, Text: "10", Value: 10, At: 3}, {At: 11}},
		"x #y\nz":                 {{Kind: 1, Text: "x"}, {Kind: 1, Text: "z", At: 5}, {At: 6}},
		"x#y\n#z\n\n":             {{Kind: 1, Text: "x"}, {At: 8}},
		"#x\ny":                   {{Kind: 1, Text: "y", At: 3}, {At: 4}},
		"# \xff\x00\r é\nx":       {{Kind: 1, Text: "x", At: 9}, {At: 10}},
		"a b":                     {{Kind: 1, Text: "a"}, {Kind: 1, Text: "b", At: 2}, {At: 3}},
		"if":                      {{Kind: 1, Text: "if"}, {At: 2}},
		"a1_":                     {{Kind: 1, Text: "a1_"}, {At: 3}},
		"a 1":                     {{Kind: 1, Text: "a"}, {Kind: 2, Text: "1", Value: 1, At: 2}, {At: 3}},
		"0":                       {{Kind: 2, Text: "0"}, {At: 1}},
		"0 0":                     {{Kind: 2, Text: "0"}, {Kind: 2, Text: "0", At: 2}, {At: 3}},
		"1099511627776":           {{Kind: 2, Text: "1099511627776", Value: maxInt}, {At: 13}},
		"1-2":                     {{Kind: 2, Text: "1", Value: 1}, {Kind: 3, Text: "-", At: 1}, {Kind: 2, Text: "2", Value: 2, At: 2}, {At: 3}},
		"-1":                      {{Kind: 3, Text: "-"}, {Kind: 2, Text: "1", Value: 1, At: 1}, {At: 2}},
		"===":                     {{Kind: 3, Text: "=="}, {Kind: 3, Text: "=", At: 2}, {At: 3}},
		"!==":                     {{Kind: 3, Text: "!="}, {Kind: 3, Text: "=", At: 2}, {At: 3}},
		"!!=":                     {{Kind: 3, Text: "!"}, {Kind: 3, Text: "!=", At: 1}, {At: 3}},
		"<<=":                     {{Kind: 3, Text: "<"}, {Kind: 3, Text: "<=", At: 1}, {At: 3}},
		"=<":                      {{Kind: 3, Text: "="}, {Kind: 3, Text: "<", At: 1}, {At: 2}},
		"> =":                     {{Kind: 3, Text: ">"}, {Kind: 3, Text: "=", At: 2}, {At: 3}},
		"&&&&":                    {{Kind: 3, Text: "&&"}, {Kind: 3, Text: "&&", At: 2}, {At: 4}},
		"--":                      {{Kind: 3, Text: "-"}, {Kind: 3, Text: "-", At: 1}, {At: 2}},
		longName:                  {{Kind: 1, Text: longName}, {At: 30}},
		"f(){}":                   {{Kind: 1, Text: "f"}, {Kind: 3, Text: "(", At: 1}, {Kind: 3, Text: ")", At: 2}, {Kind: 3, Text: "{", At: 3}, {Kind: 3, Text: "}", At: 4}, {At: 5}},
		"a,b;":                    {{Kind: 1, Text: "a"}, {Kind: 3, Text: ",", At: 1}, {Kind: 1, Text: "b", At: 2}, {Kind: 3, Text: ";", At: 3}, {At: 4}},
		strings.Repeat(" ", 4000): {{At: 4000}},
	} {
		if l, at, err := lexer.Tokens(s); !slices.Equal(l, want) || at != 0 || err != api.OK {
			t.Errorf("P10.1: Tokens(%q): %v, %d, %d instead of %v", brief(s), l, at, err, want)
		}
		checkTokens(t, s)
	}
}

func TestP10_1TokensErrors(t *testing.T) {
	long := strings.Repeat("a", 31)
	digits := strings.Repeat("9", 30)
	for _, c := range []struct {
		s   string
		at  int
		err api.Errno
	}{
		{strings.Repeat(" ", 4001), 0, api.ErrLimit},
		{strings.Repeat("&", 4001), 0, api.ErrLimit},
		{"&" + strings.Repeat(" ", 3999), 0, api.ErrSyntax},
		{strings.Repeat(" ", 3999) + "&", 3999, api.ErrSyntax},
		{strings.Repeat("x", 4000), 0, api.ErrName},
		{strings.Repeat("1", 4000), 0, api.ErrRange},
		{strings.Repeat("0", 4000), 0, api.ErrSyntax},
		{"&", 0, api.ErrSyntax},
		{"|", 0, api.ErrSyntax},
		{"&&&", 2, api.ErrSyntax},
		{"|||", 2, api.ErrSyntax},
		{"& &", 0, api.ErrSyntax},
		{"x&y", 1, api.ErrSyntax},
		{"x|&y", 1, api.ErrSyntax},
		{"x || y | z", 7, api.ErrSyntax},
		{"_", 0, api.ErrSyntax},
		{"_x", 0, api.ErrSyntax},
		{"x _", 2, api.ErrSyntax},
		{"-_", 1, api.ErrSyntax},
		{"X", 0, api.ErrSyntax},
		{"xY", 1, api.ErrSyntax},
		{"x.y", 1, api.ErrSyntax},
		{"x\r\n", 1, api.ErrSyntax},
		{"\x00", 0, api.ErrSyntax},
		{"x\x00", 1, api.ErrSyntax},
		{"\v", 0, api.ErrSyntax},
		{"\f", 0, api.ErrSyntax},
		{"\u00a0", 0, api.ErrSyntax},
		{"é", 0, api.ErrSyntax},
		{"xé", 1, api.ErrSyntax},
		{"1é", 1, api.ErrSyntax},
		{"\xff", 0, api.ErrSyntax},
		{"x\xe1", 1, api.ErrSyntax},
		{"x \xb1", 2, api.ErrSyntax},
		{"x\u0161", 1, api.ErrSyntax},
		{"x\u0130", 1, api.ErrSyntax},
		{"1\u0130", 1, api.ErrSyntax},
		{"\u0161", 0, api.ErrSyntax},
		{"\u0120", 0, api.ErrSyntax},
		{"\u0123\n", 0, api.ErrSyntax},
		{"# x\u010a&\n&", 7, api.ErrSyntax},
		{"\u0661", 0, api.ErrSyntax},
		{"\"x\"", 0, api.ErrSyntax},
		{"x?", 1, api.ErrSyntax},
		{"a[0]", 1, api.ErrSyntax},
		{"a^b", 1, api.ErrSyntax},
		{"~a", 0, api.ErrSyntax},
		{"a:b", 1, api.ErrSyntax},
		{"00", 0, api.ErrSyntax},
		{"01", 0, api.ErrSyntax},
		{"x + 007", 4, api.ErrSyntax},
		{"0a", 0, api.ErrSyntax},
		{"0_", 0, api.ErrSyntax},
		{"1a", 0, api.ErrSyntax},
		{"1_", 0, api.ErrSyntax},
		{"1_000", 0, api.ErrSyntax},
		{"x 12y", 2, api.ErrSyntax},
		{"0x10", 0, api.ErrSyntax},
		{"1e5", 0, api.ErrSyntax},
		{"1.5", 1, api.ErrSyntax},
		{digits + "a", 0, api.ErrSyntax},
		{"0" + digits, 0, api.ErrSyntax},
		{digits, 0, api.ErrRange},
		{"1099511627777", 0, api.ErrRange},
		{"-1099511627777", 1, api.ErrRange},
		{"2147483648 4294967296 1099511627778", 22, api.ErrRange},
		{"9223372036854775807", 0, api.ErrRange},
		{"9223372036854775808", 0, api.ErrRange},
		{"18446744073709551615", 0, api.ErrRange},
		{"18446744073709551616", 0, api.ErrRange},
		{"18446744073709551621", 0, api.ErrRange},
		{long, 0, api.ErrName},
		{"-" + long, 1, api.ErrName},
		{long + "A", 0, api.ErrName},
		{long + " &", 0, api.ErrName},
		{"& " + long, 0, api.ErrSyntax},
		{long + " " + digits, 0, api.ErrName},
		{digits + " " + long, 0, api.ErrRange},
		{"01 " + long, 0, api.ErrSyntax},
		{"#" + long + "\n" + digits, 33, api.ErrRange},
		{"#\n\n  _ #", 5, api.ErrSyntax},
		{"#x\r&\n|", 5, api.ErrSyntax},
	} {
		if l, at, err := lexer.Tokens(c.s); len(l) != 0 || at != c.at || err != c.err {
			t.Errorf("P10.1: Tokens(%q): %v, %d, %d instead of %d, %d", brief(c.s), l, at, err, c.at, c.err)
		}
		if e, at, err := lexer.Parse(c.s); !isZero(e) || at != c.at || err != c.err {
			t.Errorf("P10.1: Parse(%q): %v, %d, %d instead of %d, %d", brief(c.s), e, at, err, c.at, c.err)
		}
		checkTokens(t, c.s)
	}
}

// TestP10_1TokensShort has all texts of at most two bytes, and all short ones of bytes that make a difference.
func TestP10_1TokensShort(t *testing.T) {
	var bytes []byte
	for c := range 256 {
		bytes = append(bytes, byte(c))
	}
	counts := map[api.Errno]int{}
	check := func(l []byte) { counts[checkTokens(t, string(l))]++ }
	for n := range 3 {
		lists(bytes, n, check)
	}
	for n := 3; n <= 5; n++ {
		lists([]byte("az059_ \n#&=<-"), n, check)
	}
	lists([]byte("a0_\t\n#&|=!<>%(;A\xc3\xa9"), 3, check)
	lists([]byte("a1# \n&|=!<>"), 4, check)
	if counts[api.OK] < 50000 || counts[api.ErrSyntax] < 50000 {
		t.Errorf("%v texts", counts)
	}
}

// TestP10_1TokensLong has texts of up to all bytes that are possible, and more.
func TestP10_1TokensLong(t *testing.T) {
	for _, s := range slices.Concat(signs, names, numbers, gaps, []string{"1 ", "x ", "0a", "_", "&", "|", "\xff", "é", "# ", "#\n", "1-", "x\n"}) {
		if s == "" {
			continue
		}
		for _, n := range []int{29, 30, 31, 3999, 4000, 4001, 4002, 5000} {
			long := strings.Repeat(s, n/len(s)+1)[:n]
			checkTokens(t, long)
			checkTokens(t, "#"+long)
			checkTokens(t, long[1:]+"#")
			checkTokens(t, long[1:]+"&")
			checkTokens(t, long[1:]+"\n")
		}
	}
	for _, n := range []int{4001, 100000, 3000000} {
		for _, s := range []string{"x", " ", "1", "#", "\n", "(", "&"} {
			if l, at, err := lexer.Tokens(strings.Repeat(s, n)); len(l) != 0 || at != 0 || err != api.ErrLimit {
				t.Errorf("P10.1: Tokens of %d times %q: %d tokens, %d, %d", n, s, len(l), at, err)
			}
		}
	}
	for n := range 60 {
		for _, s := range []string{strings.Repeat("a", n), strings.Repeat("7", n), "b" + strings.Repeat("_", n), "1" + strings.Repeat("0", n), strings.Repeat("0", n)} {
			checkTokens(t, s)
			checkTokens(t, s+"+")
			checkTokens(t, "  "+s+"#")
			checkTokens(t, s+"A")
		}
	}
	for _, x := range []int{0, 1, maxInt, 10 * maxInt, greatest} {
		for d := range 20 {
			checkTokens(t, strconv.Itoa(x)+strings.Repeat("9", d))
		}
	}
}

// TestP10_1TokensRandom has random tokens, and random bytes in some of them.
func TestP10_1TokensRandom(t *testing.T) {
	next := randoms(3)
	counts := map[api.Errno]int{}
	for range 20000 {
		s, _ := laidOut(next, texts(next, next(12)))
		counts[checkTokens(t, s)]++
		for range next(3) {
			i := next(len(s) + 1)
			some := []string{string([]byte{byte(next(256))}), "0", "a", "_", "&", "|", "=", "#", "\n", longName, "99999999", "\r"}
			s = s[:i] + some[next(len(some))] + s[min(len(s), i+next(2)):]
		}
		counts[checkTokens(t, s)]++
	}
	for _, err := range []api.Errno{api.OK, api.ErrSyntax, api.ErrName, api.ErrRange} {
		if counts[err] < 100 {
			t.Errorf("%d texts with the error %d", counts[err], err)
		}
	}
}

func TestP10_1Keyword(t *testing.T) {
	if len(reserved) != 69 {
		t.Fatalf("%d reserved names", len(reserved))
	}
	isReserved := map[string]bool{}
	for _, s := range reserved {
		isReserved[s] = true
	}
	check := func(s string) {
		if lexer.Keyword(s) != isReserved[s] {
			t.Errorf("P10.1: Keyword(%q): %t", s, !isReserved[s])
		}
	}
	for _, s := range slices.Concat(reserved, names, numbers, signs, gaps) {
		check(s)
		check(strings.ToUpper(s))
		for _, c := range []string{"a", "s", "z", "0", "_", " ", "\n", "\x00", "e", "\xff", ","} {
			check(s + c)
			check(c + s)
		}
		for i := range s {
			check(s[:i])
			check(s[i:])
			check(s[:i] + s[i+1:])
			check(s[:i] + "a" + s[i+1:])
			check(s[:i] + "_" + s[i:])
			check(s[:i] + strings.ToUpper(s[i:i+1]) + s[i+1:])
		}
		check(s + s)
	}
	for _, a := range reserved {
		for _, b := range reserved {
			check(a + b)
			check(a + " " + b)
			check(a + ", " + b)
		}
	}
	check(strings.Repeat("a", 1000000))
}

// expectedPosition counts the lines and columns byte by byte.
func expectedPosition(s string, at int) (int, int) {
	if at < 0 || at > len(s) {
		return 0, 0
	}
	line, column := 1, 1
	for i := range at {
		column++
		if s[i] == '\n' {
			line, column = line+1, 1
		}
	}
	return line, column
}

func checkPosition(t *testing.T, s string, at int) {
	t.Helper()
	wantLine, wantColumn := expectedPosition(s, at)
	if line, column := lexer.Position(s, at); line != wantLine || column != wantColumn {
		t.Errorf("P10.1: Position(%q, %d): %d, %d instead of %d, %d", brief(s), at, line, column, wantLine, wantColumn)
	}
}

func TestP10_1Position(t *testing.T) {
	for _, c := range []struct {
		s                string
		at, line, column int
	}{
		{"", 0, 1, 1}, {"", 1, 0, 0}, {"", -1, 0, 0},
		{"\n", 0, 1, 1}, {"\n", 1, 2, 1}, {"\n", 2, 0, 0},
		{"ab\ncd\n", 0, 1, 1}, {"ab\ncd\n", 2, 1, 3}, {"ab\ncd\n", 3, 2, 1}, {"ab\ncd\n", 5, 2, 3}, {"ab\ncd\n", 6, 3, 1}, {"ab\ncd\n", 7, 0, 0},
		{"\n\nx", 2, 3, 1}, {"\n\nx", 3, 3, 2}, {"\r\nx", 1, 1, 2}, {"\tx", 1, 1, 2}, {"é\nx", 2, 1, 3}, {"é\nx", 1, 1, 2}, {"é\nx", 3, 2, 1},
		{"x", least, 0, 0}, {"x", least + 1, 0, 0}, {"x", greatest, 0, 0}, {"x", 1 << 32, 0, 0}, {"x", 1<<32 + 1, 0, 0},
	} {
		if line, column := lexer.Position(c.s, c.at); line != c.line || column != c.column {
			t.Errorf("P10.1: Position(%q, %d): %d, %d instead of %d, %d", c.s, c.at, line, column, c.line, c.column)
		}
	}
	for n := range 7 {
		lists([]byte("a\n\xc3"), n, func(l []byte) {
			for at := -2; at <= n+2; at++ {
				checkPosition(t, string(l), at)
			}
		})
	}
	next := randoms(4)
	for range 300 {
		s, offsets := laidOut(next, texts(next, next(60)))
		for _, at := range offsets {
			checkPosition(t, s, at)
		}
	}
	// No text is too long.
	long := strings.Repeat("&é\xff\x00\n", 1000)
	for at := -1; at <= len(long)+1; at += 7 {
		checkPosition(t, long, at)
	}
	long = strings.Repeat("\n", 300000) + strings.Repeat("x", 400000)
	for _, at := range []int{0, 1, 299999, 300000, 300001, 699999, 700000, 700001} {
		checkPosition(t, long, at)
	}
}

// TestP10_1ExprShort has all lists of at most four tokens that make a difference, without and with an EndToken.
func TestP10_1ExprShort(t *testing.T) {
	counts := map[api.Errno]int{}
	for n := range 5 {
		lists(alphabet, n, func(l []api.Token) {
			counts[checkExpr(t, l)]++
			checkExpr(t, append(slices.Clone(l), api.Token{At: 9}))
		})
	}
	if counts[api.OK] < 2000 || counts[api.ErrSyntax] < 2000 {
		t.Errorf("%v lists", counts)
	}
}

func TestP10_1ExprExamples(t *testing.T) {
	for s, want := range map[string]struct {
		n    int
		text string
		err  api.Errno
	}{
		"":                          {0, "", api.ErrSyntax},
		"x":                         {1, "x", api.OK},
		"x y":                       {1, "x", api.OK},
		"x 1":                       {1, "x", api.OK},
		"x (":                       {1, "x", api.OK},
		"x )":                       {1, "x", api.OK},
		"x !":                       {1, "x", api.OK},
		"x = 1":                     {1, "x", api.OK},
		"x if":                      {1, "x", api.OK},
		"x { }":                     {1, "x", api.OK},
		"x , y":                     {1, "x", api.OK},
		"x + y ; z":                 {3, "x + y", api.OK},
		"a < b < c":                 {3, "a < b", api.OK},
		"a == b != c":               {3, "a == b", api.OK},
		"a + b == c * 2 <= 3":       {7, "a + b == c * 2", api.OK},
		"a && b < c < d":            {5, "a && b < c", api.OK},
		"a < b && c < d || ! e":     {10, "a < b && c < d || !e", api.OK},
		"( a < b ) < c":             {7, "(a < b) < c", api.OK},
		"( a < b < c )":             {4, "", api.ErrSyntax},
		"( a < b":                   {4, "", api.ErrSyntax},
		"( a":                       {2, "", api.ErrSyntax},
		"( a b":                     {2, "", api.ErrSyntax},
		"( )":                       {1, "", api.ErrSyntax},
		"(":                         {1, "", api.ErrSyntax},
		")":                         {0, "", api.ErrSyntax},
		"( ( a ) + 1":               {6, "", api.ErrSyntax},
		"( ( a ) + 1 ) )":           {7, "a + 1", api.OK},
		"( a ; )":                   {2, "", api.ErrSyntax},
		"x +":                       {2, "", api.ErrSyntax},
		"x + )":                     {2, "", api.ErrSyntax},
		"x + if":                    {2, "", api.ErrSyntax},
		"x + * y":                   {2, "", api.ErrSyntax},
		"x + - y":                   {4, "x + -y", api.OK},
		"x - - - y":                 {5, "x - --y", api.OK},
		"x + ! y":                   {4, "x + !y", api.OK},
		"- - x":                     {3, "--x", api.OK},
		"! - ! x":                   {4, "!-!x", api.OK},
		"-":                         {1, "", api.ErrSyntax},
		"- + x":                     {1, "", api.ErrSyntax},
		"- x * y":                   {4, "-x * y", api.OK},
		"- ( x * y )":               {6, "-(x * y)", api.OK},
		"! x == y":                  {4, "!x == y", api.OK},
		"+ x":                       {0, "", api.ErrSyntax},
		"* x":                       {0, "", api.ErrSyntax},
		"if":                        {0, "", api.ErrSyntax},
		"= x":                       {0, "", api.ErrSyntax},
		"a - b - c":                 {5, "a - b - c", api.OK},
		"a - ( b - c )":             {7, "a - (b - c)", api.OK},
		"a / b * c % d":             {7, "a / b * c % d", api.OK},
		"a || b || c && d && e":     {9, "a || b || c && d && e", api.OK},
		"a + b * - 2":               {6, "a + b * -2", api.OK},
		"1 < 2 + 3 * 4 && 5 || 6":   {11, "1 < 2 + 3 * 4 && 5 || 6", api.OK},
		"1 || 2 && 3 < 4 + 5 * 6":   {11, "1 || 2 && 3 < 4 + 5 * 6", api.OK},
		"1 * 2 + 3 < 4 && 5 || 6 *": {12, "", api.ErrSyntax},
	} {
		l := tokens(t, s)
		for _, l := range [][]api.Token{l, l[:len(l)-1]} {
			e, n, err := lexer.Expr(l)
			if err != want.err || n != want.n || err != api.OK && !isZero(e) || err == api.OK && text(t, e) != want.text {
				t.Errorf("P10.1: Expr of %q: %v, %d, %d instead of %q, %d, %d", s, e, n, err, want.text, want.n, want.err)
			}
		}
	}
}

// TestP10_1ExprOperands has tokens that are no operands, and ones that cannot follow, in all places of some lists.
func TestP10_1ExprOperands(t *testing.T) {
	for _, s := range []string{"", "x", "-", "x +", "x <", "( ", "( x", "( x + ", "( x < y", "x + y )", "! ( x )", "( - x ) * "} {
		before := tokens(t, s)
		before = before[:len(before)-1]
		for _, wrong := range slices.Concat(noOperands, noFollowers, alphabet) {
			l := slices.Concat(before, []api.Token{wrong})
			checkExpr(t, l)
			checkExpr(t, slices.Concat(l, alphabet))
			checkExpr(t, slices.Concat(l, tokens(t, "x)")))
		}
	}
	for _, wrong := range noOperands {
		if e, n, err := lexer.Expr([]api.Token{wrong}); !isZero(e) || n != 0 || err != api.ErrSyntax {
			t.Errorf("P10.1: Expr of %v: %v, %d, %d", wrong, e, n, err)
		}
		if e, n, err := lexer.Expr([]api.Token{{Kind: 1, Text: "x"}, {Kind: 3, Text: "+"}, wrong}); !isZero(e) || n != 2 || err != api.ErrSyntax {
			t.Errorf("P10.1: Expr of x + %v: %v, %d, %d", wrong, e, n, err)
		}
	}
	for _, wrong := range noFollowers {
		if e, n, err := lexer.Expr([]api.Token{{Kind: 1, Text: "x"}, wrong}); !reflect.DeepEqual(e, name("x")) || n != 1 || err != api.OK {
			t.Errorf("P10.1: Expr of x %v: %v, %d, %d", wrong, e, n, err)
		}
		if e, n, err := lexer.Expr([]api.Token{{Kind: 3, Text: "("}, {Kind: 1, Text: "x"}, wrong}); wrong.Text != ")" && (!isZero(e) || n != 2 || err != api.ErrSyntax) {
			t.Errorf("P10.1: Expr of ( x %v: %v, %d, %d", wrong, e, n, err)
		}
	}
	for _, s := range reserved {
		if e, n, err := lexer.Expr([]api.Token{{Kind: 1, Text: s}}); !isZero(e) || n != 0 || err != api.ErrSyntax {
			t.Errorf("P10.1: Expr of %s: %v, %d, %d", s, e, n, err)
		}
	}
	for _, s := range names {
		if e, n, err := lexer.Expr([]api.Token{{Kind: 1, Text: s, At: -1}}); !reflect.DeepEqual(e, name(s)) || n != 1 || err != api.OK {
			t.Errorf("P10.1: Expr of %s: %v, %d, %d", s, e, n, err)
		}
	}
}

// TestP10_1ExprLimits has lists of up to 4001 tokens and more, and expressions that are too large or too deep.
func TestP10_1ExprLimits(t *testing.T) {
	for _, s := range []string{"x", "1", "-", "!", "(", ")", "(-", "-(", "x+", "x<", "x+(", "(x)+", "x&&", "x||x*x+", "if", "="} {
		one := tokens(t, s)
		one = one[:len(one)-1]
		for _, n := range []int{98, 99, 100, 101, 102, 200, 201, 3999, 4000, 4001, 4002, 4003, 9000} {
			l := slices.Repeat(one, n/len(one)+1)[:n]
			checkExpr(t, l)
			l[len(l)-1] = api.Token{Kind: 1, Text: "x"}
			checkExpr(t, l)
			l[len(l)-1] = api.Token{}
			checkExpr(t, l)
			l[len(l)-2] = api.Token{Kind: 2, Text: "3", Value: 3}
			checkExpr(t, l)
		}
	}
	open, x, closed := api.Token{Kind: 3, Text: "("}, api.Token{Kind: 1, Text: "x"}, api.Token{Kind: 3, Text: ")"}
	for _, n := range []int{1, 2, 12, 13, 100, 101, 1999, 2000, 2001} {
		l := slices.Concat(slices.Repeat([]api.Token{open}, n), []api.Token{x}, slices.Repeat([]api.Token{closed}, n))
		checkExpr(t, l)
		checkExpr(t, l[:len(l)-1])
		checkExpr(t, append(l, closed))
	}
	for _, l := range [][]api.Token{make([]api.Token, 4001), slices.Repeat([]api.Token{x}, 4001)} {
		if _, n, err := lexer.Expr(l); err == api.ErrLimit {
			t.Errorf("P10.1: Expr of 4001 tokens: %d, %d", n, err)
		}
		if e, n, err := lexer.Expr(append(l, x)); !isZero(e) || n != 0 || err != api.ErrLimit {
			t.Errorf("P10.1: Expr of 4002 tokens: %v, %d, %d", e, n, err)
		}
	}
	next := randoms(5)
	counts := map[api.Errno]int{}
	for _, e := range oversized() {
		s := strings.Join(loose(next, e, 4), " ")
		l := tokens(t, s+strings.Repeat(" )", next(3)))
		counts[checkExpr(t, l)]++
		checkExpr(t, append(l[:len(l)-1], api.Token{Kind: 3, Text: "+"}))
	}
	if counts[api.ErrLimit] < 20 || counts[api.ErrDepth] < 20 {
		t.Errorf("%v expressions", counts)
	}
}

// TestP10_1ExprRandom has expressions with anything behind them, and with changes.
func TestP10_1ExprRandom(t *testing.T) {
	next := randoms(6)
	counts := map[api.Errno]int{}
	for _, e := range valid() {
		l := loose(next, e, 6)
		for _, l := range [][]string{l, spoiled(next, l), append(l, texts(next, 1+next(4))...)} {
			list := tokens(t, strings.Join(l, " "))
			for i := range list {
				// What is not told of a token does not matter.
				list[i].At = []int{0, -1, next(1000), least, greatest}[next(5)]
			}
			counts[checkExpr(t, list)]++
			counts[checkExpr(t, list[:len(list)-1])]++
		}
	}
	for err, few := range map[api.Errno]int{api.OK: 10000, api.ErrSyntax: 2000, api.ErrDepth: 1} {
		if counts[err] < few {
			t.Errorf("%d lists with the error %d", counts[err], err)
		}
	}
}

func TestP10_1ParseExamples(t *testing.T) {
	wide := strings.Repeat("1 + ", 50) + "1"
	deep := strings.Repeat("-", 12) + "1"
	for _, c := range []struct {
		s    string
		at   int
		text string
		err  api.Errno
	}{
		{"a + b * -2", 0, "a + b * -2", api.OK},
		{"a < b < c", 6, "", api.ErrSyntax},
		{"", 0, "", api.ErrSyntax},
		{" # x\n ", 6, "", api.ErrSyntax},
		{"x", 0, "x", api.OK},
		{" x ", 0, "x", api.OK},
		{"x#y", 0, "x", api.OK},
		{"#y\nx", 0, "x", api.OK},
		{"(x)", 0, "x", api.OK},
		{"((x))", 0, "x", api.OK},
		{"x y", 2, "", api.ErrSyntax},
		{"x  )", 3, "", api.ErrSyntax},
		{"x (", 2, "", api.ErrSyntax},
		{"x !", 2, "", api.ErrSyntax},
		{"x = 1", 2, "", api.ErrSyntax},
		{"x;", 1, "", api.ErrSyntax},
		{"x + ", 4, "", api.ErrSyntax},
		{"x + #", 5, "", api.ErrSyntax},
		{"x + +", 4, "", api.ErrSyntax},
		{"x +  if", 5, "", api.ErrSyntax},
		{"(x", 2, "", api.ErrSyntax},
		{"(x y)", 3, "", api.ErrSyntax},
		{"( x < y > z )", 8, "", api.ErrSyntax},
		{"x + y & z", 6, "", api.ErrSyntax},
		{"x + 01", 4, "", api.ErrSyntax},
		{"x + ) + 01", 8, "", api.ErrSyntax},
		{"x + ) + 1099511627777", 8, "", api.ErrRange},
		{"x x " + longName + "a", 4, "", api.ErrName},
		{wide, 0, "", api.ErrLimit},
		{wide + " 1", len(wide) + 1, "", api.ErrSyntax},
		{wide + ")", len(wide), "", api.ErrSyntax},
		{wide + "+", len(wide) + 1, "", api.ErrSyntax},
		{"(" + wide, len(wide) + 1, "", api.ErrSyntax},
		{wide[4:] + " < 1 < 1", len(wide) + 1, "", api.ErrSyntax},
		{wide[8:], 0, wide[8:], api.ErrDepth},
		{deep, 0, "", api.ErrDepth},
		{deep + " 1", len(deep) + 1, "", api.ErrSyntax},
		{deep[1:], 0, deep[1:], api.OK},
		{"(((((((((((((((x)))))))))))))))", 0, "x", api.OK},
		{strings.Repeat("(", 1999) + "xy" + strings.Repeat(")", 1999), 0, "xy", api.OK},
		{strings.Repeat("(", 2000) + "x" + strings.Repeat(")", 1999), 4000, "", api.ErrSyntax},
		{strings.Repeat("(", 2000) + "x" + strings.Repeat(")", 2000), 0, "", api.ErrLimit},
		{strings.Repeat("(", 4000), 4000, "", api.ErrSyntax},
		{strings.Repeat("-", 4000), 4000, "", api.ErrSyntax},
		{strings.Repeat("-", 3999) + "x", 0, "", api.ErrLimit},
		{"- (-1)", 0, "--1", api.OK},
		{"1099511627776", 0, "1099511627776", api.OK},
		{"while", 0, "", api.ErrSyntax},
		{"whiles", 0, "whiles", api.OK},
	} {
		e, at, err := lexer.Parse(c.s)
		if at != c.at || err != c.err || err != api.OK && !isZero(e) || err == api.OK && text(t, e) != c.text {
			t.Errorf("P10.1: Parse(%q): %v, %d, %d instead of %q, %d, %d", brief(c.s), e, at, err, c.text, c.at, c.err)
		}
		checkParse(t, c.s)
	}
}

// TestP10_1ParseRandom has the texts of expressions, with and without changes of tokens and of bytes.
func TestP10_1ParseRandom(t *testing.T) {
	next := randoms(7)
	counts := map[api.Errno]int{}
	for _, e := range slices.Concat(valid(), oversized()) {
		l := loose(next, e, 6)
		for _, l := range [][]string{l, spoiled(next, l), append(l, texts(next, 1+next(2))...)} {
			s, _ := laidOut(next, l)
			counts[checkParse(t, s)]++
			i := next(len(s))
			s = s[:i] + []string{"\x00", "0", "a", "_", "&", "=", "#", "\n", longName, "99999999", "(", ")"}[next(12)] + s[i+next(2):]
			counts[checkParse(t, s)]++
		}
	}
	for _, err := range []api.Errno{api.OK, api.ErrSyntax, api.ErrName, api.ErrRange, api.ErrLimit, api.ErrDepth} {
		if counts[err] < 30 {
			t.Errorf("%d texts with the error %d", counts[err], err)
		}
	}
}

func TestP10_1ParseShort(t *testing.T) {
	for n := range 6 {
		lists([]byte("x1-!(+<&) "), n, func(l []byte) { checkParse(t, string(l)) })
	}
}

// places returns the addresses of all expressions in the memory of the Args of e, each as often as it is found.
func places(e api.Expr) []*api.Expr {
	var l []*api.Expr
	args := e.Args[:cap(e.Args)]
	for i := range args {
		l = append(l, &args[i])
	}
	for _, arg := range e.Args {
		l = append(l, places(arg)...)
	}
	return l
}

// TestP10_1Memory makes sure that arguments are not changed, and that each list in a result has memory of its own.
func TestP10_1Memory(t *testing.T) {
	next := randoms(8)
	for _, e := range valid()[:1500] {
		s := strings.Join(loose(next, e, 3), " ")
		l := append(tokens(t, s), alphabet...)
		before := slices.Clone(l)
		seen := map[*api.Expr]bool{}
		for range 3 {
			result, _, _ := lexer.Expr(l)
			for _, p := range slices.Concat(places(result), places(parse(t, s))) {
				if seen[p] {
					t.Fatalf("P10.1: expressions with the text %q share memory", s)
				}
				seen[p] = true
				*p = api.Expr{Kind: -1}
			}
		}
		if !slices.Equal(l, before) {
			t.Errorf("P10.1: the tokens of %q were changed", s)
		}
		list := tokens(t, s)
		clear(list[:cap(list)])
		if !slices.Equal(tokens(t, s), before[:len(list)]) || !reflect.DeepEqual(parse(t, s), e) {
			t.Errorf("P10.1: the tokens of %q share memory", s)
		}
	}
}
