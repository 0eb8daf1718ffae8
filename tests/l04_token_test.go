package tests

import (
	"math"
	"reflect"
	"slices"
	"strconv"
	"strings"
	"testing"

	"loop.example/g00166/impl"
)

func TestTokenConstants(t *testing.T) {
	got := []int64{impl.MaxTokens, impl.TokNumber, impl.TokString, impl.TokName, impl.TokField, impl.TokVar, impl.TokMark}
	if !slices.Equal(got, []int64{300, 1, 2, 3, 4, 5, 6}) {
		t.Error(got)
	}
}

// The names of twelve and of thirteen letters, and one that is far too long.
const (
	name12 = "abcdefghijkl"
	name13 = "abcdefghijklm"
)

var nameFar = strings.Repeat("a", 3000)

func namePool() []string {
	return []string{"a", "z", "_", "a0", "a9", "_0", "__", "z_9", "if", "null", "length", "x1y2z3", name12, "_23456789012", "____________"}
}

func noNames() []string {
	return []string{"", "0", "9", "0a", "1_", "A", "aB", "Ab", "a b", " a", "a ", "a.", ".a", "$a", "$", "a-b", "a$", "é", "aé", "a\x00", "\x00", "a\xff", "\xe9", "a\n", "a`", "a{", "`", "{", "a/", "a:", "ａ", "a\u0660",
		name13, name12 + "0", name12 + " ", "_234567890123", strings.Repeat("_", 13), nameFar}
}

func TestIsName(t *testing.T) {
	for _, s := range namePool() {
		if !impl.IsName(s) {
			t.Errorf("%q is a name", s)
		}
	}
	for _, s := range noNames() {
		if impl.IsName(s) {
			t.Errorf("%.40q is no name", s)
		}
	}
	for b := range 256 {
		s := string([]byte{byte(b)})
		letter := b >= 'a' && b <= 'z' || b == '_'
		further := letter || b >= '0' && b <= '9'
		if got := impl.IsName(s); got != letter {
			t.Errorf("byte %d: %v", b, got)
		}
		for _, at := range []int{1, 5, 11} {
			if got := impl.IsName(name12[:at] + s + name12[at+1:]); got != further {
				t.Errorf("byte %d at %d: %v", b, at, got)
			}
		}
		if got := impl.IsName(s + name12[1:]); got != letter {
			t.Errorf("byte %d ahead: %v", b, got)
		}
		if impl.IsName(name12 + s) {
			t.Errorf("byte %d behind twelve", b)
		}
	}
	for n := range 40 {
		if got := impl.IsName(strings.Repeat("x", n)); got != (n >= 1 && n <= 12) {
			t.Errorf("%d letters: %v", n, got)
		}
	}
}

func TestIsWord(t *testing.T) {
	if len(modelWords) != 13 {
		t.Fatal(modelWords)
	}
	isWord := func(s string) {
		if got := impl.IsWord(s); got != slices.Contains(modelWords, s) {
			t.Errorf("%q: %v", s, got)
		}
	}
	for _, word := range modelWords {
		if !impl.IsWord(word) {
			t.Errorf("%q is a word", word)
		}
		for _, s := range []string{strings.ToUpper(word), strings.ToUpper(word[:1]) + word[1:], word + " ", " " + word, word + word, "." + word, "$" + word, word + "\x00"} {
			isWord(s)
		}
		for at := range len(word) {
			isWord(word[:at])
			isWord(word[at+1:])
			isWord(word[:at] + word[at+1:])
			for b := range 256 {
				isWord(word[:at] + string([]byte{byte(b)}) + word[at:])
				isWord(word[:at] + string([]byte{byte(b)}) + word[at+1:])
			}
		}
	}
	for _, s := range slices.Concat(noNames(), []string{"", "map", "select", "range", "length", "keys", "not", "empty", "error", "type", "sort", "add", "elsif", "elseif", "endif", "in", "is", "do", "def", "nil", "catch", "foreach"}) {
		isWord(s)
	}
}

var kindNames = map[int64]string{1: "number", 2: "string", 3: "name", 4: "field", 5: "var", 6: "mark"}

// lexed is an answer as a text: its tokens with their places, or "!", its code
// and its place.
func lexed(r impl.TokensResult) string {
	if r.Code != 0 {
		return code(r.Code) + " at " + strconv.FormatInt(r.At, 10) + strings.Repeat(" and tokens", min(1, len(r.Tokens)))
	}
	var list []string
	for _, token := range r.Tokens {
		text := token.Text
		if token.Kind == impl.TokNumber {
			text += strconv.FormatInt(token.Num, 10)
		} else if token.Num != 0 {
			text += " with a number"
		}
		list = append(list, kindNames[token.Kind]+" "+text+" "+strconv.FormatInt(token.At, 10))
	}
	if r.At != 0 {
		list = append(list, "but at "+strconv.FormatInt(r.At, 10))
	}
	return strings.Join(list, "; ")
}

// checkLexed holds an answer, and the model's, against what is told by hand.
func checkLexed(t *testing.T, text, want string) {
	t.Helper()
	if got := lexed(impl.LexProgram(text)); got != want {
		t.Errorf("%.80q: %s, want %s", text, short(got), short(want))
	}
	if got := lexed(modelLex(text)); got != want {
		t.Errorf("%.80q: the model has %s, want %s", text, short(got), short(want))
	}
}

func TestLexTokens(t *testing.T) {
	cases := map[string]string{
		"": "", " ": "", " \t\n\r ": "",
		"0": "number 0 0", "7": "number 7 0", "12": "number 12 0", " 907 ": "number 907 1",
		"1000000000000000": "number 1000000000000000 0", "999999999999999": "number 999999999999999 0",
		// A 0 is a number by itself, and what is behind it another one.
		"00": "number 0 0; number 0 1", "01": "number 0 0; number 1 1", "0012": "number 0 0; number 0 1; number 12 2", "01000000000000000": "number 0 0; number 1000000000000000 1",
		"10": "number 10 0", "1 0": "number 1 0; number 0 2", "100 001": "number 100 0; number 0 4; number 0 5; number 1 6",
		"-5": "mark - 0; number 5 1", "+5": "mark + 0; number 5 1", "1.5": "number 1 0; mark . 1; number 5 2", "1e5": "number 1 0; name e5 1", "1.e5": "number 1 0; field e5 1", "1x": "number 1 0; name x 1", "0x1f": "number 0 0; name x1f 1", "1_0": "number 1 0; name _0 1", ".5": "mark . 0; number 5 1",
		`""`: "string  0", `"a"`: "string a 0", `" "`: "string   0", `"a" "b"`: "string a 0; string b 4", `"a""b"`: "string a 0; string b 3", `"\"\\\/\u0041"`: `string "\/A 0`, `"\u007e\u0020"`: "string ~  0", `"if"`: "string if 0", `."a"`: "mark . 0; string a 1", `"x"y`: "string x 0; name y 3", `1"x"2`: "number 1 0; string x 1; number 2 4",
		"a": "name a 0", "_": "name _ 0", "a1": "name a1 0", "if": "name if 0", "null": "name null 0", "a b": "name a 0; name b 2", name12: "name abcdefghijkl 0", name12 + " m": "name abcdefghijkl 0; name m 13", name12 + ".m": "name abcdefghijkl 0; field m 12", "_1_": "name _1_ 0",
		".a": "field a 0", "._": "field _ 0", ".a1.b": "field a1 0; field b 3", ". a": "mark . 0; name a 2", ".\na": "mark . 0; name a 2", "a.b": "name a 0; field b 1", "." + name12: "field abcdefghijkl 0", ".if": "field if 0", ".a.": "field a 0; mark . 2", ".0": "mark . 0; number 0 1", ".[0]": "mark . 0; mark [ 1; number 0 2; mark ] 3", ".$a": "mark . 0; var a 1",
		"..": "mark .. 0", "...": "mark .. 0; mark . 2", "....": "mark .. 0; mark .. 2", "..a": "mark .. 0; name a 2", "...a": "mark .. 0; field a 2", ". .": "mark . 0; mark . 2", ".. a": "mark .. 0; name a 3", ".a..b": "field a 0; mark .. 2; name b 4", "1..2": "number 1 0; mark .. 1; number 2 3",
		"$a": "var a 0", "$_": "var _ 0", "$a$b": "var a 0; var b 2", "$" + name12: "var abcdefghijkl 0", "$end": "var end 0", "$a.b": "var a 0; field b 2", "a$b": "name a 0; var b 1", "$a1x": "var a1x 0",
		"//": "mark // 0", "/": "mark / 0", "///": "mark // 0; mark / 2", "////": "mark // 0; mark // 2", "/ /": "mark / 0; mark / 2",
		"==": "mark == 0", "!=": "mark != 0", "<=": "mark <= 0", ">=": "mark >= 0", "<": "mark < 0", ">": "mark > 0", "<<=": "mark < 0; mark <= 1", "><": "mark > 0; mark < 1", "====": "mark == 0; mark == 2",
		"()[]{}": "mark ( 0; mark ) 1; mark [ 2; mark ] 3; mark { 4; mark } 5", "|,:;": "mark | 0; mark , 1; mark : 2; mark ; 3", "+-*%?": "mark + 0; mark - 1; mark * 2; mark % 3; mark ? 4",
		".a//$x 12": "field a 0; mark // 2; var x 4; number 12 7", ".a?//b": "field a 0; mark ? 2; mark // 3; name b 5", "a<=b": "name a 0; mark <= 1; name b 3", "{a:1}": "mark { 0; name a 1; mark : 2; number 1 3; mark } 4",
		"\t.a\r\n|\n .b ": "field a 1; mark | 5; field b 8", "reduce .[] as $x (0;.+$x)": "name reduce 0; mark . 7; mark [ 8; mark ] 9; name as 11; var x 14; mark ( 17; number 0 18; mark ; 19; mark . 20; mark + 21; var x 22; mark ) 24",
	}
	for text, want := range cases {
		checkLexed(t, text, want)
	}
}

// Each error, and its place, is told by hand.
func TestLexErrors(t *testing.T) {
	long := strings.Repeat("x", 61)
	cases := []readCase{
		{"a = b", impl.ErrText, 2}, {"=", impl.ErrText, 0}, {"===", impl.ErrText, 2}, {"= =", impl.ErrText, 0}, {"<==", impl.ErrText, 2}, {"!", impl.ErrText, 0}, {"!!=", impl.ErrText, 0}, {"! =", impl.ErrText, 0}, {"a!", impl.ErrText, 1}, {"<!", impl.ErrText, 1}, {">=!", impl.ErrText, 2}, {"=<", impl.ErrText, 0}, {"=>", impl.ErrText, 0},
		{"A", impl.ErrText, 0}, {"aB", impl.ErrText, 1}, {".A", impl.ErrText, 1}, {"#", impl.ErrText, 0}, {"a#b", impl.ErrText, 1}, {"&&", impl.ErrText, 0}, {"'a'", impl.ErrText, 0}, {"@", impl.ErrText, 0}, {`\`, impl.ErrText, 0}, {"^", impl.ErrText, 0}, {"`", impl.ErrText, 0}, {"~", impl.ErrText, 0}, {"\x7f", impl.ErrText, 0}, {"é", impl.ErrText, 0}, {"aé", impl.ErrText, 1}, {"\x00", impl.ErrText, 0}, {"a\x00", impl.ErrText, 1}, {" \x0b", impl.ErrText, 1}, {"\x0c", impl.ErrText, 0}, {"1\u00a01", impl.ErrText, 1}, {"\ufeffa", impl.ErrText, 0}, {"a\xff", impl.ErrText, 1}, {"a # =", impl.ErrText, 2},
		// '$' begins no token where no name is right behind it.
		{"$", impl.ErrText, 0}, {"a $", impl.ErrText, 2}, {".a|$", impl.ErrText, 3}, {"$ ", impl.ErrText, 0}, {"$ a", impl.ErrText, 0}, {"$1", impl.ErrText, 0}, {"$1a", impl.ErrText, 0}, {"$$a", impl.ErrText, 0}, {"$A", impl.ErrText, 0}, {"$.a", impl.ErrText, 0}, {`$"a"`, impl.ErrText, 0}, {"$\x00", impl.ErrText, 0}, {"$é", impl.ErrText, 0}, {"$\n", impl.ErrText, 0}, {"$a$", impl.ErrText, 2}, {".$", impl.ErrText, 1},
		// Where a name is too long, no name is there: '.' is a mark then.
		{name13, impl.ErrText, 0}, {" " + name13, impl.ErrText, 1}, {name13 + " b", impl.ErrText, 0}, {name12 + "0", impl.ErrText, 0}, {name12 + "_", impl.ErrText, 0}, {"_234567890123", impl.ErrText, 0}, {"1" + name13, impl.ErrText, 1}, {name12 + " " + name13, impl.ErrText, 13}, {nameFar, impl.ErrText, 0}, {name13 + "#", impl.ErrText, 0},
		{"." + name13, impl.ErrText, 1}, {"a|." + name13, impl.ErrText, 3}, {".." + name13, impl.ErrText, 2}, {"." + nameFar, impl.ErrText, 1}, {"." + name12 + "." + name13, impl.ErrText, 14},
		{"$" + name13, impl.ErrText, 0}, {"a $" + name13, impl.ErrText, 2}, {"$" + nameFar, impl.ErrText, 0}, {"$" + name12 + "$" + name13, impl.ErrText, 13},
		{name12 + "A", impl.ErrText, 12}, {"$" + name12 + "A", impl.ErrText, 13}, {"." + name12 + "A", impl.ErrText, 13}, {name12 + "é", impl.ErrText, 12},
		{"1000000000000001", impl.ErrRange, 0}, {" 9999999999999999", impl.ErrRange, 1}, {"10000000000000000", impl.ErrRange, 0}, {"a+99999999999999999", impl.ErrRange, 2}, {"9223372036854775807", impl.ErrRange, 0}, {"18446744073709551617", impl.ErrRange, 0}, {"1" + strings.Repeat("0", 3000), impl.ErrRange, 0}, {"-1000000000000001", impl.ErrRange, 1}, {"01000000000000001", impl.ErrRange, 1}, {"010000000000000000", impl.ErrRange, 1}, {"1000000000000001#", impl.ErrRange, 0}, {"1000000000000000 1000000000000001", impl.ErrRange, 17},
		{`"`, impl.ErrText, 1}, {`a "b`, impl.ErrText, 4}, {`a "b\`, impl.ErrText, 5}, {`. "\n" x`, impl.ErrText, 4}, {". \"a\n\"", impl.ErrText, 4}, {".a|\"\x00\"", impl.ErrText, 4}, {"[\"\x7f\"]", impl.ErrText, 2}, {"[\"é\"]", impl.ErrText, 2}, {`x "\u"`, impl.ErrText, 5}, {`x "\u0`, impl.ErrText, 6}, {`x "\u1041"`, impl.ErrText, 5}, {`x "\u0141"`, impl.ErrText, 6}, {`x "\u00g1"`, impl.ErrText, 7}, {`x "\u004g"`, impl.ErrText, 8}, {`x "\u001f" #`, impl.ErrText, 7}, {`x "\u007f"`, impl.ErrText, 7}, {`"a" "b" "c`, impl.ErrText, 10}, {`"a"b"`, impl.ErrText, 5},
		{`"` + long + `"`, impl.ErrMany, 0}, {`.a + "` + long + `" #`, impl.ErrMany, 5}, {`"` + strings.Repeat(`\"`, 61) + `"`, impl.ErrMany, 0}, {`[ "` + strings.Repeat(`\u0041`, 61) + `"]`, impl.ErrMany, 2}, {`. "` + long, impl.ErrText, 64}, {`. "` + long + `\n"`, impl.ErrText, 65}, {`"a" "` + long + `" "`, impl.ErrMany, 4},
		{strings.Repeat(" ", 4001), impl.ErrMany, 0}, {strings.Repeat("a", 4001), impl.ErrMany, 0}, {strings.Repeat("#", 4001), impl.ErrMany, 0}, {strings.Repeat("(", 4001), impl.ErrMany, 0}, {strings.Repeat("\xff", 100000), impl.ErrMany, 0}, {strings.Repeat(" ", 3999) + "#", impl.ErrText, 3999}, {strings.Repeat(" ", 3999) + "$", impl.ErrText, 3999}, {strings.Repeat(" ", 3999) + `"`, impl.ErrText, 4000}, {strings.Repeat("a ", 300) + strings.Repeat(" ", 3401), impl.ErrMany, 0},
		// The first that is met.
		{"# 1000000000000001", impl.ErrText, 0}, {"1000000000000001 #", impl.ErrRange, 0}, {`"` + long + `" 1000000000000001`, impl.ErrMany, 0}, {`1000000000000001 "` + long + `"`, impl.ErrRange, 0}, {name13 + ` "` + long + `"`, impl.ErrText, 0}, {"$ " + name13, impl.ErrText, 0},
	}
	for _, c := range cases {
		checkLexed(t, c.text, code(c.code)+" at "+strconv.FormatInt(c.at, 10))
	}
}

// Every mark by itself, and two right behind each other: of two that make a
// longer mark, or begin with one, the longer one is taken.
func TestLexMarks(t *testing.T) {
	if len(modelMarks) != 25 {
		t.Fatal(modelMarks)
	}
	for _, a := range modelMarks {
		checkLexed(t, a, "mark "+a+" 0")
		checkLexed(t, " "+a+"\n", "mark "+a+" 1")
		for _, b := range modelMarks {
			text, want := a+b, "mark "+a+" 0; mark "+b+" "+strconv.Itoa(len(a))
			if len(a) == 1 && slices.Contains(modelMarks, text[:2]) {
				want = "mark " + text[:2] + " 0"
				if rest := text[2:]; rest == "=" {
					want = errText + " at 2"
				} else if rest != "" {
					want += "; mark " + rest + " 2"
				}
			}
			checkLexed(t, text, want)
			checkLexed(t, a+" "+b, "mark "+a+" 0; mark "+b+" "+strconv.Itoa(len(a)+1))
		}
	}
	for b := range 256 {
		s := string([]byte{byte(b)})
		got := impl.LexProgram(s)
		switch {
		case slices.Contains(modelMarks, s):
			if !reflect.DeepEqual(got, impl.TokensResult{Tokens: []impl.Token{{Kind: impl.TokMark, Text: s}}}) {
				t.Errorf("byte %d: %v", b, got)
			}
		case strings.Contains(" \t\n\r", s):
			if !reflect.DeepEqual(got, impl.TokensResult{}) {
				t.Errorf("byte %d: %v", b, got)
			}
		case impl.IsName(s) || b >= '0' && b <= '9':
			if got.Code != 0 || len(got.Tokens) != 1 {
				t.Errorf("byte %d: %v", b, got)
			}
		case b == '"':
			if got.Code != impl.ErrText || got.At != 1 {
				t.Errorf("byte %d: %v", b, got)
			}
		default:
			if got.Code != impl.ErrText || got.At != 0 {
				t.Errorf("byte %d: %v", b, got)
			}
		}
	}
}

// A string of a program is read as DecodeValue reads it, at every place.
func TestLexStrings(t *testing.T) {
	check := func(text string) {
		for _, before := range []string{"", " ", ".a == ", `"x"`, "[1,"} {
			want := impl.DecodeValue(text)
			got := impl.LexProgram(before + text)
			if want.Code != 0 {
				if got.Code != want.Code || got.At != want.At+int64(len(before)) || got.Tokens != nil {
					t.Errorf("%q behind %q: %v, want %v", text, before, got, want)
				}
				continue
			}
			last := len(got.Tokens) - 1
			if got.Code != 0 || got.Tokens[last] != (impl.Token{Kind: impl.TokString, At: int64(len(before)), Text: want.Value[0].Text}) {
				t.Errorf("%q behind %q: %v, want %v", text, before, got, want)
			}
		}
	}
	for n := 55; n < 65; n++ {
		for _, piece := range []string{"x", `\"`, `\\`, `\/`, `\u0041`} {
			check(`"` + strings.Repeat(piece, n) + `"`)
			check(`"` + strings.Repeat(piece, n))
		}
	}
	good := `"a\"\\\/\u0041\u007e ~"`
	check(good)
	for at := 1; at < len(good)-1; at++ {
		check(good[:at])
		for b := range 256 {
			if changed := good[:at] + string([]byte{byte(b)}) + good[at+1:]; strings.Count(changed, `"`) == 3 {
				check(changed)
			}
		}
	}
}

func TestLexBlanks(t *testing.T) {
	pieces := []string{".a", "1", "name", "$x", `"s p"`, "..", "/", "=="}
	for _, blank := range []string{" ", "\t", "\n", "\r", "\r\n", " \t\n\r", strings.Repeat(" ", 400)} {
		var want []impl.Token
		text := blank
		for _, piece := range pieces {
			token := impl.LexProgram(piece).Tokens[0]
			token.At = int64(len(text))
			want = append(want, token)
			text += piece + blank
		}
		for _, text := range []string{text, strings.TrimRight(text, " \t\n\r")} {
			if got := impl.LexProgram(text); got.Code != 0 || !slices.Equal(got.Tokens, want) {
				t.Errorf("%.100q: %v, want %v", text, got, want)
			}
		}
	}
	for b := range 256 {
		parted := lexed(impl.LexProgram("a"+string([]byte{byte(b)})+")")) == "name a 0; mark ) 2"
		if parted != (strings.IndexByte(" \t\n\r", byte(b)) >= 0) {
			t.Errorf("byte %d: %v", b, parted)
		}
	}
}

func TestLexTooMany(t *testing.T) {
	at := func(code, at int64) impl.TokensResult { return impl.TokensResult{Code: code, At: at} }
	for _, one := range []string{"a ", ".a ", "$a ", "1 ", `"" `, "| ", "(", "0", ".a", "$a", `""`, "..", "//"} {
		full := strings.Repeat(one, 300)
		place := int64(len(full))
		if got := impl.LexProgram(full); got.Code != 0 || got.At != 0 || len(got.Tokens) != 300 {
			t.Errorf("%q: %v", one, short(got))
		}
		if got := impl.LexProgram(full + " \n\t\r"); got.Code != 0 || len(got.Tokens) != 300 {
			t.Errorf("%q: %v", one, short(got))
		}
		cases := []struct {
			text string
			want impl.TokensResult
		}{
			{full + one, at(impl.ErrMany, place)},
			{full + " \n" + one, at(impl.ErrMany, place+2)},
			{full + one + "#", at(impl.ErrMany, place)},
			{full + one + " " + name13, at(impl.ErrMany, place)},
			{full + one + ` "`, at(impl.ErrMany, place)},
			{full + strings.Repeat(one, 100), at(impl.ErrMany, place)},
			{full + "#", at(impl.ErrText, place)},
			{full + " #" + one, at(impl.ErrText, place+1)},
			{full + " $ " + one, at(impl.ErrText, place+1)},
			{full + " $", at(impl.ErrText, place+1)},
			{full + " \x00", at(impl.ErrText, place+1)},
			{full + " " + name13 + one, at(impl.ErrText, place+1)},
			{full + " ." + name13, at(impl.ErrMany, place+1)},
			{full + " $" + name13, at(impl.ErrText, place+1)},
			{full + " 1000000000000001", at(impl.ErrRange, place+1)},
			{full + ` "ab`, at(impl.ErrText, place+4)},
			{full + ` "\n"`, at(impl.ErrText, place+3)},
			{full + ` "ab"`, at(impl.ErrMany, place+1)},
			{full + " .", at(impl.ErrMany, place+1)},
			{full + " .a", at(impl.ErrMany, place+1)},
			{full + " ..", at(impl.ErrMany, place+1)},
			{full + " $a", at(impl.ErrMany, place+1)},
			{full + " " + name12, at(impl.ErrMany, place+1)},
			{"#" + full + one, at(impl.ErrText, 0)},
			{" 1000000000000001 " + full + one, at(impl.ErrRange, 1)},
			{full[:len(one)*299] + "#" + one + one, at(impl.ErrText, int64(len(one)*299))},
			{full + one + strings.Repeat(" ", 4000), at(impl.ErrMany, 0)},
		}
		for _, c := range cases {
			if got := impl.LexProgram(c.text); !reflect.DeepEqual(got, c.want) {
				t.Errorf("%q, then %q: %v, want %v", one, c.text[min(len(c.text), len(full)):], short(got), c.want)
			}
			if got := modelLex(c.text); !reflect.DeepEqual(got, c.want) {
				t.Errorf("%q, then %q: the model has %v, want %v", one, c.text[min(len(c.text), len(full)):], short(got), c.want)
			}
		}
	}
}

func TestLexAtMaxText(t *testing.T) {
	last := impl.Token{Kind: impl.TokName, At: 3999, Text: "a"}
	if got := impl.LexProgram(strings.Repeat(" ", 3999) + "a"); got.Code != 0 || !slices.Equal(got.Tokens, []impl.Token{last}) {
		t.Error(got)
	}
	last.At = 0
	if got := impl.LexProgram("a" + strings.Repeat(" ", 3999)); got.Code != 0 || !slices.Equal(got.Tokens, []impl.Token{last}) {
		t.Error(got)
	}
	if got := impl.LexProgram("a" + strings.Repeat(" ", 4000)); !reflect.DeepEqual(got, impl.TokensResult{Code: impl.ErrMany}) {
		t.Error(got)
	}
	if got := impl.LexProgram(strings.Repeat("\r", 4000)); !reflect.DeepEqual(got, impl.TokensResult{}) {
		t.Error(got)
	}
}

func checkLex(t *testing.T, text string) {
	t.Helper()
	got, want := impl.LexProgram(text), modelLex(text)
	if got.Code != want.Code || got.At != want.At || !slices.Equal(got.Tokens, want.Tokens) {
		t.Fatalf("%q: %v, want %v", text, got, want)
	}
}

func TestShortProgramsAgainstModel(t *testing.T) {
	check := func(text string) { checkLex(t, text) }
	shortTexts("", strings.Split(".$a0/=!<\" \\A", ""), 5, check)
	shortTexts("", strings.Split("._9>=/?[ \x00\x7f\n", ""), 4, check)
	shortTexts("", []string{".", "$", "a", "7", "_", name12[1:], " ", "A", "$"}, 5, check)
	shortTexts("", []string{"0", "1", "00000000", "99999999", "a", ".", " "}, 5, check)
	shortTexts("", []string{`"`, `\`, "u00", "4", "1", "x", strings.Repeat("y", 59), "\n", "."}, 5, check)
	shortTexts(strings.Repeat("a ", 298), []string{".", "$", "a", "1", `"`, "#", " ", name13, "="}, 4, check)
	for a := range 256 {
		for b := range 256 {
			check(string([]byte{byte(a), byte(b)}))
			check("x" + string([]byte{byte(a), byte(b)}) + "y")
		}
	}
}

// The programs have all that may stand in one.
func TestChangedProgramsAgainstModel(t *testing.T) {
	texts := []string{
		".a//$x 12 <=.. [0,1]|{a:\"b\\u0041\\\\\"}",
		"reduce .[] as $x (0; . + $x) // if . == 1 then \"y\" elif . != 2 then null else false end",
		name12 + "." + name12 + "$" + name12 + " _1",
		"1000000000000000,999999999999999 0 00 10",
		"try(.a?)>=-1*2%3/4<5>6;:,..\t.\r\n./ /",
		`"` + strings.Repeat("z", 59) + `""\"\\\/"`,
	}
	for _, text := range texts {
		changedTexts(text, func(text string) { checkLex(t, text) })
	}
}

// goodTokens can be joined.
func goodTokens() []impl.Token {
	var list []impl.Token
	for _, mark := range modelMarks {
		list = append(list, impl.Token{Kind: impl.TokMark, Text: mark})
	}
	for _, name := range namePool() {
		for _, kind := range []int64{impl.TokName, impl.TokField, impl.TokVar} {
			list = append(list, impl.Token{Kind: kind, Text: name})
		}
	}
	for _, n := range []int64{0, 1, 9, 10, 123, 999999999999999, impl.MaxNumber} {
		list = append(list, impl.Token{Kind: impl.TokNumber, Num: n})
	}
	for _, s := range []string{"", " ", "a", "if", `"`, `\`, `\"`, "/", `\u0041`, ".a $x // 1", "~", strings.Repeat("x", 60), strings.Repeat(`"`, 60)} {
		list = append(list, impl.Token{Kind: impl.TokString, Text: s})
	}
	return list
}

// wrongTokens are told by hand: each code, and which comes first.
func wrongTokens() []struct {
	token impl.Token
	code  int64
} {
	return []struct {
		token impl.Token
		code  int64
	}{
		{impl.Token{}, impl.ErrKind}, {impl.Token{Kind: 7}, impl.ErrKind}, {impl.Token{Kind: -1}, impl.ErrKind}, {impl.Token{Kind: math.MinInt64}, impl.ErrKind}, {impl.Token{Kind: math.MaxInt64}, impl.ErrKind}, {impl.Token{Kind: 7, Num: -1, Text: "#"}, impl.ErrKind}, {impl.Token{Text: "a"}, impl.ErrKind}, {impl.Token{Kind: 0, Num: 5}, impl.ErrKind},
		{impl.Token{Kind: impl.TokNumber, Text: "1"}, impl.ErrForm}, {impl.Token{Kind: impl.TokNumber, Num: 1, Text: "1"}, impl.ErrForm}, {impl.Token{Kind: impl.TokNumber, Num: -1, Text: "x"}, impl.ErrForm}, {impl.Token{Kind: impl.TokNumber, Text: " "}, impl.ErrForm}, {impl.Token{Kind: impl.TokNumber, Text: "\x00"}, impl.ErrForm},
		{impl.Token{Kind: impl.TokNumber, Num: -1}, impl.ErrRange}, {impl.Token{Kind: impl.TokNumber, Num: impl.MaxNumber + 1}, impl.ErrRange}, {impl.Token{Kind: impl.TokNumber, Num: math.MinInt64}, impl.ErrRange}, {impl.Token{Kind: impl.TokNumber, Num: math.MaxInt64}, impl.ErrRange}, {impl.Token{Kind: impl.TokNumber, Num: -impl.MaxNumber}, impl.ErrRange},
		{impl.Token{Kind: impl.TokString, Num: 1}, impl.ErrForm}, {impl.Token{Kind: impl.TokString, Num: -1, Text: "a"}, impl.ErrForm}, {impl.Token{Kind: impl.TokString, Text: "\n"}, impl.ErrForm}, {impl.Token{Kind: impl.TokString, Text: "é"}, impl.ErrForm}, {impl.Token{Kind: impl.TokString, Text: "\x7f"}, impl.ErrForm}, {impl.Token{Kind: impl.TokString, Text: "\x00"}, impl.ErrForm}, {impl.Token{Kind: impl.TokString, Text: strings.Repeat("x", 61)}, impl.ErrForm}, {impl.Token{Kind: impl.TokString, Num: impl.MaxNumber + 1}, impl.ErrForm},
		{impl.Token{Kind: impl.TokName}, impl.ErrForm}, {impl.Token{Kind: impl.TokName, Text: "A"}, impl.ErrForm}, {impl.Token{Kind: impl.TokName, Text: name13}, impl.ErrForm}, {impl.Token{Kind: impl.TokName, Num: 1, Text: "a"}, impl.ErrForm}, {impl.Token{Kind: impl.TokName, Num: -1, Text: "a"}, impl.ErrForm}, {impl.Token{Kind: impl.TokName, Text: ".a"}, impl.ErrForm}, {impl.Token{Kind: impl.TokName, Text: "1"}, impl.ErrForm},
		{impl.Token{Kind: impl.TokField}, impl.ErrForm}, {impl.Token{Kind: impl.TokField, Text: ".a"}, impl.ErrForm}, {impl.Token{Kind: impl.TokField, Text: name13}, impl.ErrForm}, {impl.Token{Kind: impl.TokField, Num: 1, Text: "a"}, impl.ErrForm},
		{impl.Token{Kind: impl.TokVar}, impl.ErrForm}, {impl.Token{Kind: impl.TokVar, Text: "$a"}, impl.ErrForm}, {impl.Token{Kind: impl.TokVar, Text: name13}, impl.ErrForm}, {impl.Token{Kind: impl.TokVar, Num: -1, Text: "a"}, impl.ErrForm},
		{impl.Token{Kind: impl.TokMark}, impl.ErrForm}, {impl.Token{Kind: impl.TokMark, Text: "="}, impl.ErrForm}, {impl.Token{Kind: impl.TokMark, Text: "!"}, impl.ErrForm}, {impl.Token{Kind: impl.TokMark, Text: "$"}, impl.ErrForm}, {impl.Token{Kind: impl.TokMark, Text: "..."}, impl.ErrForm}, {impl.Token{Kind: impl.TokMark, Text: "a"}, impl.ErrForm}, {impl.Token{Kind: impl.TokMark, Text: "()"}, impl.ErrForm}, {impl.Token{Kind: impl.TokMark, Text: " "}, impl.ErrForm}, {impl.Token{Kind: impl.TokMark, Text: "| "}, impl.ErrForm}, {impl.Token{Kind: impl.TokMark, Num: 1, Text: "|"}, impl.ErrForm}, {impl.Token{Kind: impl.TokMark, Num: -1, Text: "|"}, impl.ErrForm}, {impl.Token{Kind: impl.TokMark, Text: `"`}, impl.ErrForm},
	}
}

func TestTokenText(t *testing.T) {
	good := map[impl.Token]string{
		{Kind: impl.TokNumber}: "0", {Kind: impl.TokNumber, Num: 12}: "12", {Kind: impl.TokNumber, Num: impl.MaxNumber}: "1000000000000000", {Kind: impl.TokNumber, At: -5, Num: 7}: "7",
		{Kind: impl.TokString}: `""`, {Kind: impl.TokString, Text: `a"\/`}: `"a\"\\/"`, {Kind: impl.TokString, Text: "if"}: `"if"`, {Kind: impl.TokString, At: math.MaxInt64, Text: " "}: `" "`,
		{Kind: impl.TokName, Text: "a"}: "a", {Kind: impl.TokName, Text: "if"}: "if", {Kind: impl.TokName, Text: name12}: name12, {Kind: impl.TokName, At: math.MinInt64, Text: "_"}: "_",
		{Kind: impl.TokField, Text: "a"}: ".a", {Kind: impl.TokField, Text: name12}: "." + name12, {Kind: impl.TokField, Text: "end"}: ".end",
		{Kind: impl.TokVar, Text: "a"}: "$a", {Kind: impl.TokVar, Text: name12}: "$" + name12, {Kind: impl.TokVar, Text: "_0"}: "$_0",
		{Kind: impl.TokMark, Text: ".."}: "..", {Kind: impl.TokMark, Text: "."}: ".", {Kind: impl.TokMark, Text: "?", At: 9}: "?",
	}
	for token, text := range good {
		if got := impl.TokenText(token); got != (impl.TextResult{Text: text}) {
			t.Errorf("%v: %v, want %s", token, got, text)
		}
	}
	for _, mark := range modelMarks {
		if got := impl.TokenText(impl.Token{Kind: impl.TokMark, Text: mark}); got != (impl.TextResult{Text: mark}) {
			t.Errorf("%q: %v", mark, got)
		}
	}
	for _, c := range wrongTokens() {
		for _, at := range []int64{0, -1, math.MinInt64, math.MaxInt64} {
			c.token.At = at
			if got := impl.TokenText(c.token); got != (impl.TextResult{Code: c.code}) {
				t.Errorf("%v: %v, want code %d", c.token, got, c.code)
			}
		}
	}
}

func TestTokenTextAgainstModel(t *testing.T) {
	texts := slices.Concat(namePool(), noNames(), modelMarks, modelWords, badKeys(), []string{"=", "!", "#", "...", `"`, `\`, "a\"b", strings.Repeat("x", 60), strings.Repeat(`\`, 60)})
	for b := range 256 {
		texts = append(texts, string([]byte{byte(b)}), "a"+string([]byte{byte(b)}), "."+string([]byte{byte(b)}))
	}
	nums := []int64{math.MinInt64, -impl.MaxNumber, -1, 0, 1, 10, impl.MaxNumber - 1, impl.MaxNumber, impl.MaxNumber + 1, math.MaxInt64}
	for _, kind := range []int64{math.MinInt64, -1, 0, 1, 2, 3, 4, 5, 6, 7, 8, math.MaxInt64} {
		for _, n := range nums {
			for i, text := range texts {
				token := impl.Token{Kind: kind, At: farNumbers[i%len(farNumbers)], Num: n, Text: text}
				want := modelTokenText(token)
				if got := impl.TokenText(token); got != want {
					t.Fatalf("%.100v: %v, want %v", token, got, want)
				}
			}
		}
	}
}

func manyTokens(n int, token impl.Token) []impl.Token {
	return slices.Repeat([]impl.Token{token}, n)
}

func TestJoinTokens(t *testing.T) {
	dot := impl.Token{Kind: impl.TokMark, Text: "."}
	name := impl.Token{Kind: impl.TokName, Text: "a"}
	form, kind, wide := impl.Token{Kind: impl.TokMark, Text: "#"}, impl.Token{Kind: 9}, impl.Token{Kind: impl.TokNumber, Num: -1}
	long := impl.Token{Kind: impl.TokString, Text: strings.Repeat("x", 60)}
	cases := []struct {
		list []impl.Token
		want impl.TextResult
	}{
		{nil, impl.TextResult{}}, {[]impl.Token{}, impl.TextResult{}},
		{[]impl.Token{dot}, impl.TextResult{Text: "."}}, {[]impl.Token{dot, dot}, impl.TextResult{Text: ". ."}}, {[]impl.Token{dot, name}, impl.TextResult{Text: ". a"}}, {[]impl.Token{name, name, dot}, impl.TextResult{Text: "a a ."}},
		{[]impl.Token{{Kind: impl.TokField, Text: "a"}, {Kind: impl.TokMark, Text: "//"}, {Kind: impl.TokVar, Text: "x"}, {Kind: impl.TokNumber, Num: 12}, {Kind: impl.TokString, Text: `"`}}, impl.TextResult{Text: `.a // $x 12 "\""`}},
		{[]impl.Token{{Kind: impl.TokString}, {Kind: impl.TokString}}, impl.TextResult{Text: `"" ""`}},
		{manyTokens(300, dot), impl.TextResult{Text: strings.Repeat(". ", 299) + "."}},
		{manyTokens(300, long), impl.TextResult{Text: strings.Repeat(`"`+long.Text+`" `, 299) + `"` + long.Text + `"`}},
		{manyTokens(301, dot), impl.TextResult{Code: impl.ErrMany}}, {manyTokens(301, kind), impl.TextResult{Code: impl.ErrMany}}, {manyTokens(10000, form), impl.TextResult{Code: impl.ErrMany}},
		{append(manyTokens(299, dot), form), impl.TextResult{Code: impl.ErrForm}}, {append(manyTokens(300, form), dot), impl.TextResult{Code: impl.ErrMany}},
		// Token by token.
		{[]impl.Token{form}, impl.TextResult{Code: impl.ErrForm}}, {[]impl.Token{kind}, impl.TextResult{Code: impl.ErrKind}}, {[]impl.Token{wide}, impl.TextResult{Code: impl.ErrRange}},
		{[]impl.Token{form, kind}, impl.TextResult{Code: impl.ErrForm}}, {[]impl.Token{kind, form}, impl.TextResult{Code: impl.ErrKind}}, {[]impl.Token{wide, kind, form}, impl.TextResult{Code: impl.ErrRange}}, {[]impl.Token{dot, wide, form}, impl.TextResult{Code: impl.ErrRange}}, {[]impl.Token{dot, name, {}}, impl.TextResult{Code: impl.ErrKind}},
	}
	for i, c := range cases {
		if got := impl.JoinTokens(c.list); got != c.want {
			t.Errorf("case %d: %v, want %v", i, short(got), short(c.want))
		}
	}
	for _, a := range wrongTokens() {
		if got := impl.JoinTokens([]impl.Token{dot, name, a.token, dot}); got != (impl.TextResult{Code: a.code}) {
			t.Errorf("%v: %v, want code %d", a.token, got, a.code)
		}
		for _, b := range wrongTokens() {
			if got := impl.JoinTokens([]impl.Token{a.token, b.token}); got != (impl.TextResult{Code: a.code}) {
				t.Errorf("%v and %v: %v, want code %d", a.token, b.token, got, a.code)
			}
		}
	}
}

// checkTokensBack is P5: what is joined is read as the same tokens, each where
// it stands in the text.
func checkTokensBack(t *testing.T, list []impl.Token) {
	t.Helper()
	joined := impl.JoinTokens(list)
	if joined != modelJoin(list) || joined.Code != 0 {
		t.Fatalf("%v: %v, want %v", list, joined, modelJoin(list))
	}
	got := impl.LexProgram(joined.Text)
	if len(joined.Text) > impl.MaxText {
		if !reflect.DeepEqual(got, impl.TokensResult{Code: impl.ErrMany}) {
			t.Fatalf("%d bytes: %v", len(joined.Text), short(got))
		}
		return
	}
	want, at := slices.Clone(list), int64(0)
	for i := range want {
		want[i].At = at
		at += int64(len(modelTokenText(list[i]).Text)) + 1
	}
	if got.Code != 0 || got.At != 0 || !slices.Equal(got.Tokens, want) {
		t.Fatalf("%v are read as %v, want %v", list, got, want)
	}
}

func TestTokensAreReadBack(t *testing.T) {
	pool := goodTokens()
	for i, a := range pool {
		checkTokensBack(t, []impl.Token{a})
		for j, b := range pool {
			a.At, b.At = farNumbers[i%len(farNumbers)], farNumbers[j%len(farNumbers)]
			checkTokensBack(t, []impl.Token{a, b})
			checkTokensBack(t, []impl.Token{a, b, pool[(i*7+j*3)%len(pool)], a})
		}
		checkTokensBack(t, manyTokens(300, a))
	}
	small := []impl.Token{{Kind: impl.TokMark, Text: "."}, {Kind: impl.TokMark, Text: ".."}, {Kind: impl.TokMark, Text: "/"}, {Kind: impl.TokMark, Text: "<"}, {Kind: impl.TokName, Text: "a"}, {Kind: impl.TokField, Text: "a"}, {Kind: impl.TokVar, Text: "a"}, {Kind: impl.TokNumber}, {Kind: impl.TokNumber, Num: 1}, {Kind: impl.TokString}, {Kind: impl.TokString, Text: `\`}}
	for _, a := range small {
		for _, b := range small {
			for _, c := range small {
				for _, d := range small {
					checkTokensBack(t, []impl.Token{a, b, c, d})
				}
			}
		}
	}
	for b := 32; b <= 126; b++ {
		for _, s := range []string{string(rune(b)), strings.Repeat(string(rune(b)), 60), "a" + string(rune(b)) + `"`} {
			checkTokensBack(t, []impl.Token{{Kind: impl.TokString, Text: s}, {Kind: impl.TokName, Text: "a"}})
		}
	}
	checkTokensBack(t, nil)
}

// P5 at the greatest text: at MaxText bytes it is read back, at one more not.
func TestTokensAtMaxText(t *testing.T) {
	for size := 40; size < 60; size++ {
		list := manyTokens(62, impl.Token{Kind: impl.TokString, Text: strings.Repeat("x", 60)})
		list = append(list, impl.Token{Kind: impl.TokString, Text: strings.Repeat("y", size)})
		checkTokensBack(t, list)
	}
	list := append(manyTokens(63, impl.Token{Kind: impl.TokString, Text: strings.Repeat("x", 60)}), impl.Token{Kind: impl.TokString, Text: strings.Repeat("y", 29)})
	if joined := impl.JoinTokens(list); len(joined.Text) != impl.MaxText {
		t.Fatal(len(joined.Text))
	}
	checkTokensBack(t, list)
	list[63].Text += "y"
	checkTokensBack(t, list)
}

// What is read can be joined, and that is read as the same.
func TestProgramsAreReadTheSame(t *testing.T) {
	check := func(text string) {
		if read := impl.LexProgram(text); read.Code == 0 {
			checkTokensBack(t, read.Tokens)
		}
	}
	shortTexts("", []string{".", "a", "$", "0", "1", "/", "=", `"`, `\`, " ", "<"}, 5, check)
	shortTexts("", []string{"..", ".a", "$b", "007", "//", `"x\u0041"`, "\n", "?"}, 5, check)
}

// callAllTokens is what all functions of the chapter answer to these arguments.
func callAllTokens(list []impl.Token, text string) []any {
	answers := []any{impl.IsName(text), impl.IsWord(text), impl.LexProgram(text), impl.LexProgram(text), impl.JoinTokens(list)}
	for _, token := range list {
		answers = append(answers, impl.TokenText(token))
	}
	return answers
}

// P1 of this chapter.
func TestTokensArgumentsStayAndAnswersAreNew(t *testing.T) {
	lists := [][]impl.Token{nil, goodTokens(), goodTokens()[:1], manyTokens(300, goodTokens()[0]), manyTokens(301, goodTokens()[40]), {{}}, {{Kind: 1, Text: "x"}, {Kind: 6, Text: "#"}}}
	for _, c := range wrongTokens() {
		lists = append(lists, []impl.Token{goodTokens()[5], c.token})
	}
	texts := []string{"", " ", "a", ".a//$x 12", "a = b", `"x" "y`, strings.Repeat("a ", 300), strings.Repeat("a ", 301), strings.Repeat(" ", 4000), strings.Repeat("(", 4001), strings.Repeat("\xff", 100000), "\x00\x80\xff", "if", name13, "$", "é"}
	for i, given := range lists {
		list := append(slices.Clone(given), impl.Token{Kind: 42, At: 43, Num: 44, Text: "behind"})
		before := slices.Clone(list)
		for _, text := range texts {
			first := callAllTokens(list[:len(given)], text)
			kept := callAllTokens(list[:len(given)], text)
			checkApart(t, first, list, kept[2])
			scribble(first)
			again := callAllTokens(list[:len(given)], text)
			if !reflect.DeepEqual(kept, again) {
				t.Errorf("list %d, text %.40q: %v, then %v", i, text, short(kept), short(again))
			}
		}
		if !slices.Equal(list, before) {
			t.Errorf("list %d was changed", i)
		}
	}
	for _, text := range texts {
		if x, y := callAllTokens(nil, text), callAllTokens([]impl.Token{}, text); !reflect.DeepEqual(x, y) {
			t.Error(x, y)
		}
	}
}
