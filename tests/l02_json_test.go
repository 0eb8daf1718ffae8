package tests

import (
	"math"
	"reflect"
	"slices"
	"strconv"
	"strings"
	"testing"

	"loop.example/g00166/impl"
)

func TestMaxText(t *testing.T) {
	if impl.MaxText != 4000 {
		t.Error(impl.MaxText)
	}
}

func TestEncodeString(t *testing.T) {
	cases := []struct{ s, text string }{
		{"", `""`}, {"a", `"a"`}, {" ~", `" ~"`}, {"/", `"/"`}, {"'", `"'"`},
		{`"`, `"\""`}, {`\`, `"\\"`}, {`\"`, `"\\\""`}, {`a"b\c`, `"a\"b\\c"`}, {`\u0041`, `"\\u0041"`},
		{strings.Repeat(`"`, 60), `"` + strings.Repeat(`\"`, 60) + `"`},
		{strings.Repeat(`x`, 60), `"` + strings.Repeat(`x`, 60) + `"`},
	}
	for _, c := range cases {
		if got := impl.EncodeString(c.s); got != (impl.TextResult{Text: c.text}) {
			t.Errorf("%q: %v", c.s, got)
		}
	}
	for _, s := range []string{strings.Repeat("x", 61), "\n", "\x1f", "\x7f", "\x00", "é", "a\xff", strings.Repeat(`"`, 61), strings.Repeat("x", 5000)} {
		if got := impl.EncodeString(s); got != (impl.TextResult{Code: impl.ErrText}) {
			t.Errorf("%q: %v", s, got)
		}
	}
	for b := range 256 {
		s := string([]byte{'a', byte(b)})
		want := impl.TextResult{Code: impl.ErrText}
		if b >= 32 && b <= 126 {
			want = impl.TextResult{Text: strconv.Quote(s)}
		}
		if got := impl.EncodeString(s); got != want {
			t.Errorf("byte %d: %v, want %v", b, got, want)
		}
	}
}

func TestEncodeValue(t *testing.T) {
	cases := []struct {
		v    cells
		text string
	}{
		{null(), "null"}, {no(), "false"}, {yes(), "true"},
		{num(0), "0"}, {num(7), "7"}, {num(-1), "-1"}, {num(10), "10"},
		{num(impl.MaxNumber), "1000000000000000"}, {num(-impl.MaxNumber), "-1000000000000000"},
		{str(""), `""`}, {str(`a"\`), `"a\"\\"`},
		{arr(), "[]"}, {obj(), "{}"}, {arr(arr(), obj()), "[[],{}]"},
		{arr(num(1), str("x"), null()), `[1,"x",null]`},
		{obj(member("", num(1)), member(`"`, arr(yes(), no())), member("b", obj(member("c", num(-5))))), `{"":1,"\"":[true,false],"b":{"c":-5}}`},
	}
	for _, c := range cases {
		if got := impl.EncodeValue(c.v); got != (impl.TextResult{Text: c.text}) {
			t.Errorf("%v: %v, want %s", c.v, got, c.text)
		}
	}
	for _, v := range sound() {
		m, _ := readModel(v)
		if got := impl.EncodeValue(v); got != (impl.TextResult{Text: m.json()}) {
			t.Errorf("%v: %v, want %s", v, got, m.json())
		}
	}
	for i, c := range faulty() {
		if got := impl.EncodeValue(c.v); got != (impl.TextResult{Code: c.code}) {
			t.Errorf("case %d: %v, want code %d", i, got, c.code)
		}
	}
}

// A text may be longer than what can be read.
func longValue(strings60 int) cells {
	return arr(repeat(strings60, str(strings.Repeat("x", 60)))...)
}

func TestEncodeLongValue(t *testing.T) {
	got := impl.EncodeValue(longValue(199))
	if got.Code != impl.OK || len(got.Text) != 199*63+1 {
		t.Error(got.Code, len(got.Text))
	}
	all := impl.EncodeAll(repeat(200, longValue(199)))
	if all.Code != impl.OK || all.Text != strings.Repeat(got.Text+"\n", 200) {
		t.Error(all.Code, len(all.Text))
	}
}

func TestEncodeAll(t *testing.T) {
	cases := []struct {
		list []cells
		want impl.TextResult
	}{
		{nil, impl.TextResult{}},
		{[]cells{}, impl.TextResult{}},
		{[]cells{num(1)}, impl.TextResult{Text: "1\n"}},
		{[]cells{num(1), arr(str("a"), null()), obj()}, impl.TextResult{Text: "1\n[\"a\",null]\n{}\n"}},
		{repeat(200, no()), impl.TextResult{Text: strings.Repeat("false\n", 200)}},
		{repeat(201, no()), impl.TextResult{Code: impl.ErrMany}},
		{repeat(201, cells{{Kind: 7}}), impl.TextResult{Code: impl.ErrMany}},
		{repeat(200, cells{{Kind: 7}}), impl.TextResult{Code: impl.ErrKind}},
		{[]cells{nil}, impl.TextResult{Code: impl.ErrMany}},
		{[]cells{num(1), num(impl.MaxNumber + 1), {{Kind: 7}}}, impl.TextResult{Code: impl.ErrRange}},
		{[]cells{num(1), {{Kind: 7}}, num(impl.MaxNumber + 1)}, impl.TextResult{Code: impl.ErrKind}},
		{[]cells{nested(21), str("\n")}, impl.TextResult{Code: impl.ErrDeep}},
	}
	for i, c := range cases {
		if got := impl.EncodeAll(c.list); got != c.want {
			t.Errorf("case %d: %v, want %v", i, got, c.want)
		}
	}
	for i, c := range faulty() {
		if got := impl.EncodeAll([]cells{null(), c.v, {{Kind: 7}}}); got != (impl.TextResult{Code: c.code}) {
			t.Errorf("fault %d: %v, want code %d", i, got, c.code)
		}
	}
}

func TestSkipBlanks(t *testing.T) {
	texts := []string{"", " ", "a", " a", "a ", "\t\n\r x", "  \x0b", "\x00 ", "\u00a0", " \x85", "null  ", strings.Repeat(" ", 5000), strings.Repeat("\r\n", 3000) + "]"}
	for b := range 256 {
		texts = append(texts, string([]byte{' ', byte(b), 'x'}))
	}
	for _, text := range texts {
		length := int64(len(text))
		for _, at := range []int64{math.MinInt64, -1, length + 1, math.MaxInt64} {
			if got := impl.SkipBlanks(text, at); got != (impl.IntResult{Code: impl.ErrRange}) {
				t.Errorf("%q at %d: %v", text, at, got)
			}
		}
		for at := int64(0); at <= length; at++ {
			want := length - int64(len(strings.TrimLeft(text[at:], " \t\n\r")))
			if got := impl.SkipBlanks(text, at); got != (impl.IntResult{Value: want}) {
				t.Errorf("%q at %d: %v, want %d", text, at, got, want)
			}
			if at == 10 {
				break
			}
		}
	}
	if got := impl.SkipBlanks("  ", 2); got != (impl.IntResult{Value: 2}) {
		t.Error("at the length", got)
	}
	if got := impl.SkipBlanks(strings.Repeat(" ", 100000)+"a", 99999); got != (impl.IntResult{Value: 100000}) {
		t.Error("a long text", got)
	}
}

func TestDecodeNumber(t *testing.T) {
	good := map[string]int64{"0": 0, "-0": 0, "1": 1, "-1": -1, "10": 10, "-907": -907, "999999999999999": 999999999999999,
		"1000000000000000": impl.MaxNumber, "-1000000000000000": -impl.MaxNumber}
	for text, n := range good {
		if got := impl.DecodeNumber(text); got != (impl.IntResult{Value: n}) {
			t.Errorf("%q: %v, want %d", text, got, n)
		}
	}
	for _, text := range []string{"1000000000000001", "-1000000000000001", "9999999999999999", "10000000000000000", "-10000000000000000", "9223372036854775807", "9223372036854775808",
		"-9223372036854775808", "-9223372036854775809", "18446744073709551616", "18446744073709551617", "1" + strings.Repeat("0", 5000)} {
		if got := impl.DecodeNumber(text); got != (impl.IntResult{Code: impl.ErrRange}) {
			t.Errorf("%q: %v", text, got)
		}
	}
	for _, text := range []string{"", "-", "--1", "+1", "00", "01", "-01", "-00", " 1", "1 ", "1\n", "1.0", "1e3", "1E3", "0x1", "1_0", "a", "1a", "-a", "١", "\x00",
		"1000000000000000000000x", "00000000000000000000000", "9223372036854775808.", "1-", "1-1", "-1-", "NaN", "null"} {
		if got := impl.DecodeNumber(text); got != (impl.IntResult{Code: impl.ErrText}) {
			t.Errorf("%q: %v", text, got)
		}
	}
	for b := range 256 {
		text := "4" + string([]byte{byte(b)})
		want := impl.IntResult{Code: impl.ErrText}
		if b >= '0' && b <= '9' {
			want = impl.IntResult{Value: 40 + int64(b-'0')}
		}
		if got := impl.DecodeNumber(text); got != want {
			t.Errorf("%q: %v, want %v", text, got, want)
		}
	}
}

func TestDecodeValues(t *testing.T) {
	cases := []struct {
		text string
		v    cells
	}{
		{"null", null()}, {"false", no()}, {"true", yes()}, {"0", num(0)}, {"-0", num(0)}, {"-12", num(-12)},
		{"1000000000000000", num(impl.MaxNumber)}, {"-1000000000000000", num(-impl.MaxNumber)},
		{`""`, str("")}, {`" "`, str(" ")}, {`"a/b"`, str("a/b")}, {`"\""`, str(`"`)}, {`"\\"`, str(`\`)}, {`"\/"`, str("/")},
		{`"\u0041"`, str("A")}, {`"\u0020\u007e\u007E"`, str(" ~~")}, {`"\u002F\u002f\u0022\u005c"`, str(`//"\`)}, {`"\\u0041"`, str(`\u0041`)}, {`"\u00410"`, str("A0")},
		{"[]", arr()}, {"{}", obj()}, {"[[]]", arr(arr())}, {"[1,2]", arr(num(1), num(2))}, {`[{},"x",[null]]`, arr(obj(), str("x"), arr(null()))},
		{`{"a":1}`, obj(member("a", num(1)))},
		{`{"b":1,"a":2}`, obj(member("a", num(2)), member("b", num(1)))},
		{`{"a":1,"a":2}`, obj(member("a", num(2)))},
		{`{"a":[1,2,3],"b":0,"a":{"z":1,"y":2,"z":3},"":7}`, obj(member("", num(7)), member("a", obj(member("y", num(2)), member("z", num(3)))), member("b", num(0)))},
		{`{"\u0061":1,"a":2}`, obj(member("a", num(2)))},
		{`{"a":1,"\u0061":2,"A":3}`, obj(member("A", num(3)), member("a", num(2)))},
		{" \t\r\n[ \t\r\n1 \t\r\n, \t\r\n{ \t\r\n\"a\" \t\r\n: \t\r\n2 \t\r\n, \t\r\n\"b\":[ \t\r\n] \t\r\n} \t\r\n] \t\r\n", arr(num(1), obj(member("a", num(2)), member("b", arr())))},
		{"{ \n}", obj()}, {" 1 ", num(1)}, {"\nnull\n", null()}, {" \"x\"\r", str("x")},
		{strings.Repeat(" ", 3999) + "1", num(1)}, {"1" + strings.Repeat("\n", 3999), num(1)},
		{`"` + strings.Repeat("x", 60) + `"`, str(strings.Repeat("x", 60))},
		{`"` + strings.Repeat(`\u0078`, 60) + `"`, str(strings.Repeat("x", 60))},
		{`{"` + strings.Repeat(`\\`, 60) + `":0}`, obj(member(strings.Repeat(`\`, 60), num(0)))},
		{strings.Repeat("[", 20) + strings.Repeat("]", 20), append(nested(20)[:19:19], impl.Cell{Kind: impl.KindArray})},
		{strings.Repeat("[", 19) + "1" + strings.Repeat("]", 19), nested(20)},
		{strings.Repeat("[", 20) + " \n" + strings.Repeat("]", 20), append(nested(20)[:19:19], impl.Cell{Kind: impl.KindArray})},
		{strings.Repeat("[", 19) + "{ }" + strings.Repeat("]", 19), append(nested(20)[:19:19], impl.Cell{Kind: impl.KindObject})},
		{"[" + strings.Repeat("1,", 198) + "1]", arr(repeat(199, num(1))...)},
		// What a later member of the key replaces does not count.
		{`{"a":[` + strings.Repeat("1,", 300) + `1],"a":2}`, obj(member("a", num(2)))},
		{`{` + strings.Repeat(`"a":1,`, 300) + `"b":1}`, obj(member("a", num(1)), member("b", num(1)))},
	}
	for _, c := range cases {
		if got := impl.DecodeValue(c.text); got.Code != impl.OK || got.At != 0 || !slices.Equal(got.Value, c.v) {
			t.Errorf("%q: %v, want %v", c.text, got, c.v)
		}
		if got := modelDecode(c.text); !slices.Equal(got.Value, c.v) {
			t.Errorf("%q: the model has %v", c.text, got)
		}
	}
}

type readCase struct {
	text string
	code int64
	at   int64
}

// badTexts are told by hand: each error the document names, and its place.
func badTexts() []readCase {
	deep := func(n int) string { return strings.Repeat("[", n) }
	long := strings.Repeat("x", 61)
	many := strings.Repeat("1,", 199) + "1"
	return []readCase{
		{"", impl.ErrText, 0}, {"  ", impl.ErrText, 2}, {"\x00", impl.ErrText, 0}, {"x", impl.ErrText, 0}, {" ]", impl.ErrText, 1}, {"\x0b1", impl.ErrText, 0}, {"é", impl.ErrText, 0}, {"\ufeff1", impl.ErrText, 0},
		{"n", impl.ErrText, 1}, {"nul", impl.ErrText, 3}, {"nulk", impl.ErrText, 3}, {"nxll", impl.ErrText, 1}, {"Null", impl.ErrText, 0}, {"nuLl", impl.ErrText, 2}, {"nullx", impl.ErrText, 4}, {"nu ll", impl.ErrText, 2},
		{"fals", impl.ErrText, 4}, {"falze", impl.ErrText, 3}, {"tru", impl.ErrText, 3}, {"ture", impl.ErrText, 1}, {"truefalse", impl.ErrText, 4}, {"[truE]", impl.ErrText, 4},
		{"-", impl.ErrText, 1}, {"-x", impl.ErrText, 1}, {"--1", impl.ErrText, 1}, {"- 1", impl.ErrText, 1}, {"+1", impl.ErrText, 0}, {"01", impl.ErrText, 1}, {"-01", impl.ErrText, 2}, {"00", impl.ErrText, 1}, {"1x", impl.ErrText, 1}, {"1-", impl.ErrText, 1}, {"0x10", impl.ErrText, 1}, {".5", impl.ErrText, 0}, {"-.5", impl.ErrText, 1}, {"[1 2]", impl.ErrText, 3},
		{"1000000000000001", impl.ErrRange, 0}, {" -1000000000000001", impl.ErrRange, 1}, {"[1,10000000000000000]", impl.ErrRange, 3}, {"9223372036854775808", impl.ErrRange, 0}, {"[-99999999999999999999999999 x", impl.ErrRange, 1},
		{"1.5", impl.ErrRange, 1}, {"1.", impl.ErrRange, 1}, {"0e", impl.ErrRange, 1}, {"-0E5", impl.ErrRange, 2}, {"[12e3]", impl.ErrRange, 3}, {"1 .5", impl.ErrText, 2}, {"1 e", impl.ErrText, 2},
		{"1000000000000001.5", impl.ErrRange, 0}, {" 1000000000000000.5", impl.ErrRange, 17}, {"01.5", impl.ErrText, 1}, {"1000000000000001x", impl.ErrRange, 0},
		{`"`, impl.ErrText, 1}, {`"abc`, impl.ErrText, 4}, {"\"a\nb\"", impl.ErrText, 2}, {"\"\x1f\"", impl.ErrText, 1}, {"\"\x7f\"", impl.ErrText, 1}, {"\"é\"", impl.ErrText, 1}, {"\"\x00\"", impl.ErrText, 1}, {`'a'`, impl.ErrText, 0}, {`"a" "b"`, impl.ErrText, 4}, {`"a""`, impl.ErrText, 3},
		{`"\`, impl.ErrText, 2}, {`"\n"`, impl.ErrText, 2}, {`"\ "`, impl.ErrText, 2}, {`"ab\x41"`, impl.ErrText, 4}, {`"\U0041"`, impl.ErrText, 2}, {`"\'"`, impl.ErrText, 2}, {`"\"`, impl.ErrText, 3},
		{`"\u`, impl.ErrText, 3}, {`"\u0`, impl.ErrText, 4}, {`"\u00`, impl.ErrText, 5}, {`"\u004`, impl.ErrText, 6}, {`"\u0041`, impl.ErrText, 7}, {`"\u"`, impl.ErrText, 3}, {`"\u1041"`, impl.ErrText, 3}, {`"\u0141"`, impl.ErrText, 4}, {`"\u00g1"`, impl.ErrText, 5}, {`"\u004g"`, impl.ErrText, 6}, {`"\u004"`, impl.ErrText, 6}, {`"\u00G0"`, impl.ErrText, 5}, {`"\u00 1"`, impl.ErrText, 5},
		{`"\u001f"`, impl.ErrText, 5}, {`"\u0000"`, impl.ErrText, 5}, {`"\u007f"`, impl.ErrText, 5}, {`"\u007F"`, impl.ErrText, 5}, {`"\u0080"`, impl.ErrText, 5}, {`"\u00ff"`, impl.ErrText, 5}, {`"\u00FF"`, impl.ErrText, 5}, {`"\u000a`, impl.ErrText, 5}, {`"ab\u001f"`, impl.ErrText, 7},
		{`"` + long + `"`, impl.ErrMany, 0}, {` ["` + long + `"]`, impl.ErrMany, 2}, {`{"` + long + `":1}`, impl.ErrMany, 1}, {`{"a":"` + long + `"`, impl.ErrMany, 5}, {`"` + strings.Repeat(`\u0078`, 61) + `"`, impl.ErrMany, 0}, {`"` + strings.Repeat(`\"`, 61) + `"`, impl.ErrMany, 0}, {`"` + long + `" x`, impl.ErrMany, 0},
		{`"` + long, impl.ErrText, 62}, {`"` + long + "\n\"", impl.ErrText, 62}, {`"` + long + `\n"`, impl.ErrText, 63},
		{"[", impl.ErrText, 1}, {"[ ", impl.ErrText, 2}, {"[1", impl.ErrText, 2}, {"[1,", impl.ErrText, 3}, {"[1,]", impl.ErrText, 3}, {"[,]", impl.ErrText, 1}, {"[,1]", impl.ErrText, 1}, {"[1,,2]", impl.ErrText, 3}, {"[1;2]", impl.ErrText, 2}, {"[1}", impl.ErrText, 2}, {"[}", impl.ErrText, 1}, {"[1:2]", impl.ErrText, 2}, {"[]]", impl.ErrText, 2}, {"[] []", impl.ErrText, 3}, {"[1]1", impl.ErrText, 3}, {"]", impl.ErrText, 0},
		{"{", impl.ErrText, 1}, {"{1:2}", impl.ErrText, 1}, {"{a:1}", impl.ErrText, 1}, {`{"a"`, impl.ErrText, 4}, {`{"a"}`, impl.ErrText, 4}, {`{"a" 1}`, impl.ErrText, 5}, {`{"a":`, impl.ErrText, 5}, {`{"a":}`, impl.ErrText, 5}, {`{"a":1`, impl.ErrText, 6}, {`{"a":1,`, impl.ErrText, 7}, {`{"a":1,}`, impl.ErrText, 7}, {`{"a":1 , }`, impl.ErrText, 9}, {`{"a":1]`, impl.ErrText, 6}, {`{"a":1 "b":2}`, impl.ErrText, 7}, {`{,}`, impl.ErrText, 1}, {`{"a",1}`, impl.ErrText, 4}, {`{"a"::1}`, impl.ErrText, 5}, {`{]`, impl.ErrText, 1}, {`{"a":1}}`, impl.ErrText, 7}, {`{"a`, impl.ErrText, 3}, {`{null:1}`, impl.ErrText, 1}, {`{[]:1}`, impl.ErrText, 1}, {"}", impl.ErrText, 0}, {",", impl.ErrText, 0}, {":", impl.ErrText, 0}, {`"a":1`, impl.ErrText, 3}, {"1,2", impl.ErrText, 1},
		{deep(21), impl.ErrDeep, 20}, {deep(20) + "1", impl.ErrDeep, 20}, {deep(20) + "x", impl.ErrDeep, 20}, {deep(20) + ",", impl.ErrDeep, 20}, {deep(20) + "}", impl.ErrDeep, 20}, {deep(20) + "\x00", impl.ErrDeep, 20}, {deep(20) + " \t1", impl.ErrDeep, 22}, {deep(20) + "\"\n", impl.ErrDeep, 20}, {deep(20), impl.ErrText, 20}, {deep(20) + " ", impl.ErrText, 21}, {" [ " + deep(19) + " \t\r\n", impl.ErrText, 26}, {deep(19) + "[],[ ", impl.ErrText, 24},
		{deep(19) + `{"a": 1}`, impl.ErrDeep, 25}, {deep(19) + `{"a":}`, impl.ErrDeep, 24}, {deep(19) + `{"a":`, impl.ErrText, 24}, {deep(19) + `{"a" : `, impl.ErrText, 26}, {deep(19) + `{"a":` + "\x00", impl.ErrDeep, 24}, {deep(19) + `{"a" 1}`, impl.ErrText, 24}, {deep(19) + `{a`, impl.ErrText, 20}, {deep(19) + `{`, impl.ErrText, 20},
		{deep(19) + "[],[2]", impl.ErrDeep, 23}, {"[" + strings.Repeat("[],", 100) + deep(20), impl.ErrDeep, 320}, {`{"a":` + deep(20) + `,"a":1}`, impl.ErrDeep, 24},
		{strings.Repeat("[", 4000), impl.ErrDeep, 20}, {deep(20) + strings.Repeat("]", 19), impl.ErrText, 39}, {deep(20) + strings.Repeat("]", 21), impl.ErrText, 40},
		{"[" + many + "]", impl.ErrMany, 0}, {"[" + many, impl.ErrText, 400}, {"[" + many + "] x", impl.ErrText, 402}, {" [" + many + ",01]", impl.ErrText, 403}, {`{"a":[` + many + `]}`, impl.ErrMany, 0}, {"[" + many + "," + `"` + long + `"]`, impl.ErrMany, 401},
		{"1" + strings.Repeat(" ", 4000), impl.ErrMany, 0}, {strings.Repeat("x", 4001), impl.ErrMany, 0}, {strings.Repeat("x", 100000), impl.ErrMany, 0}, {strings.Repeat(" ", 4000), impl.ErrText, 4000}, {strings.Repeat(" ", 3999) + "x", impl.ErrText, 3999},
	}
}

func TestDecodeErrors(t *testing.T) {
	for _, c := range badTexts() {
		got := impl.DecodeValue(c.text)
		if got.Code != c.code || got.At != c.at || got.Value != nil {
			t.Errorf("%.80q: %v, want code %d at %d", c.text, got, c.code, c.at)
		}
		if m := modelDecode(c.text); m.Code != c.code || m.At != c.at {
			t.Errorf("%.80q: the model has code %d at %d, want code %d at %d", c.text, m.Code, m.At, c.code, c.at)
		}
	}
}

// A text that ends where a value is to begin ends too early, at the deepest
// place as at any other; with a byte there that value is too deep.
func TestDecodeEndsAtTheDeepest(t *testing.T) {
	for depth := 1; depth <= impl.MaxDepth; depth++ {
		for _, last := range []string{"[", "{\"a\":", "{ \"a\" : ", "{\"b\":{},\"a\":"} {
			for _, outer := range []string{"[", " [ ", "{\"k\":", "[[],"} {
				for _, blanks := range []string{"", " ", "\t", "\r\n", strings.Repeat(" \n", 100)} {
					text := strings.Repeat(outer, depth-1) + last + blanks
					want := impl.ReadResult{Code: impl.ErrText, At: int64(len(text))}
					if depth == impl.MaxDepth && strings.Contains(last, "{}") {
						want = impl.ReadResult{Code: impl.ErrDeep, At: int64(strings.Index(text, "{}"))}
					}
					if got := impl.DecodeValue(text); !reflect.DeepEqual(got, want) {
						t.Errorf("%q: %v, want %v", text, got, want)
					}
				}
			}
		}
	}
	for _, open := range []string{"[", "{\"a\":"} {
		text := strings.Repeat(open, impl.MaxDepth) + " "
		for b := range 256 {
			if strings.IndexByte(" \t\r\n", byte(b)) >= 0 || b == ']' && open == "[" {
				continue
			}
			want := impl.ReadResult{Code: impl.ErrDeep, At: int64(len(text))}
			if got := impl.DecodeValue(text + string([]byte{byte(b)})); !reflect.DeepEqual(got, want) {
				t.Errorf("%q and byte %d: %v, want %v", text, b, got, want)
			}
		}
	}
}

func checkDecode(t *testing.T, text string) {
	t.Helper()
	got, want := impl.DecodeValue(text), modelDecode(text)
	if got.Code != want.Code || got.At != want.At || !slices.Equal(got.Value, want.Value) {
		t.Fatalf("%q: %v, want %v", text, got, want)
	}
	if got.Code == impl.OK && impl.ValueFault(got.Value) != impl.OK {
		t.Fatalf("%q: %v has a fault", text, got)
	}
}

// shortTexts calls do with all texts of at most n of these pieces, behind
// before.
func shortTexts(before string, pieces []string, n int, do func(string)) {
	do(before)
	if n == 0 {
		return
	}
	for _, piece := range pieces {
		shortTexts(before+piece, pieces, n-1, do)
	}
}

func TestShortTextsAgainstModel(t *testing.T) {
	check := func(text string) { checkDecode(t, text) }
	bytes := strings.Split("[]{},:\"\\u0-1ea. \n\x00\x7f", "")
	shortTexts("", bytes, 4, check)
	shortTexts("", strings.Split("[]{},:\"1", ""), 6, check)
	shortTexts("", []string{"[", "]", "{", "}", ",", ":", `"a"`, `"b"`, "1", " "}, 6, check)
	shortTexts(`"\`, strings.Split("u0127efFgG\"\\", ""), 5, check)
	shortTexts(`"\u00`, strings.Split("01267afgAFG/:@`\"", ""), 3, check)
	shortTexts("", []string{"nu", "ll", "null", "tr", "ue", "fal", "se", "false", "[", ",", "]"}, 4, check)
	shortTexts("", []string{"-", "0", "1", "100000000", "999999999", ".", "e", "E", " "}, 5, check)
	shortTexts(`{"a":0,`, []string{`"a"`, `"b"`, `"\u0061"`, ":", ",", "1", "}", " "}, 6, check)
	shortTexts(strings.Repeat("[", 18), []string{"[", "]", "{", `"k":`, "}", ",", "0", " "}, 5, check)
	shortTexts(`"`+strings.Repeat("x", 58), []string{"x", `\"`, `\u0078`, `"`, "\n", `\`}, 5, check)
}

// changedTexts calls do with every beginning and every end of a text, and with
// every byte in place of, and ahead of, every byte of it.
func changedTexts(text string, do func(string)) {
	for at := range len(text) + 1 {
		do(text[:at])
		do(text[at:])
		for b := range 256 {
			do(text[:at] + string([]byte{byte(b)}) + text[at:])
			if at < len(text) {
				do(text[:at] + string([]byte{byte(b)}) + text[at+1:])
			}
		}
	}
}

// The texts have all that may stand in one.
func TestChangedTextsAgainstModel(t *testing.T) {
	texts := []string{
		` {"b" : [ ] , "a":"x\u0041"}`,
		`[null,false,true,-10,0,"a\"\\\/\u007e"]`,
		"\t[ 1 ,\n{ \"k\" : { } , \"\" : [ 2 ] }\r] ",
		strings.Repeat("[", 19) + `{"a":1}` + strings.Repeat("]", 19),
		strings.Repeat(`{"k":`, 19) + "[ ]" + strings.Repeat("}", 19),
		`[1000000000000000,-1000000000000000]`,
		`{"a":1,"b":2,"a":{"c":3,"c":4},"b":[5]}`,
		`"` + strings.Repeat("y", 59) + `"`,
	}
	for _, text := range texts {
		changedTexts(text, func(text string) { checkDecode(t, text) })
	}
}

func TestManyCellsAgainstModel(t *testing.T) {
	for n := 190; n < 210; n++ {
		checkDecode(t, "["+strings.TrimSuffix(strings.Repeat("1,", n), ",")+"]")
		checkDecode(t, `{"a":[`+strings.TrimSuffix(strings.Repeat("1,", n), ",")+"]}")
		var members []string
		for i := range n {
			members = append(members, `"k`+strconv.Itoa(i*7919%n)+`":`+strconv.Itoa(i))
		}
		checkDecode(t, "{"+strings.Join(members, ",")+"}")
		checkDecode(t, "{"+strings.Join(members, ",")+","+strings.Join(members, " , ")+"}")
	}
}

func checkReadBack(t *testing.T, v cells) {
	t.Helper()
	text := impl.EncodeValue(v)
	if text.Code != impl.OK {
		t.Fatalf("%v: code %d", v, text.Code)
	}
	got := impl.DecodeValue(text.Text)
	if len(text.Text) > impl.MaxText {
		if !reflect.DeepEqual(got, impl.ReadResult{Code: impl.ErrMany}) {
			t.Fatalf("%v: %v", v, got)
		}
		return
	}
	if got.Code != impl.OK || got.At != 0 || !impl.SameValues(got.Value, v) || !slices.Equal(got.Value, v) {
		t.Fatalf("%v is read back as %v", v, got)
	}
}

// P3, from a value to its text and back.
func TestValuesAreReadBack(t *testing.T) {
	for _, v := range sound() {
		checkReadBack(t, v)
	}
	for _, v := range shortLists(smallAlphabet(), 4) {
		if impl.ValueFault(v) == impl.OK {
			checkReadBack(t, v)
		}
	}
	for b := 32; b <= 126; b++ {
		s := string(rune(b))
		for _, s := range []string{s, s + s, "a" + s, s + "u0041", strings.Repeat(s, 60)} {
			checkReadBack(t, str(s))
			checkReadBack(t, obj(member(s, arr(str(s)))))
		}
	}
	for n := range 199 {
		checkReadBack(t, longValue(n))
	}
	for tail := 20; tail < 60; tail++ {
		v := arr(append(repeat(62, str(strings.Repeat("x", 60))), str(strings.Repeat("y", tail)), str(strings.Repeat("z", 20)))...)
		checkReadBack(t, v)
	}
}

func TestTextsAtMaxText(t *testing.T) {
	v := arr(append(repeat(63, str(strings.Repeat("x", 60))), str(strings.Repeat("y", 27)))...)
	if text := impl.EncodeValue(v); len(text.Text) != impl.MaxText {
		t.Fatal(len(text.Text))
	}
	checkReadBack(t, v)
	v[len(v)-1].Text += "y"
	checkReadBack(t, v)
}

// P3, from a text to its value: what is read has no fault, and its text is
// read as the same.
func TestTextsAreReadTheSame(t *testing.T) {
	check := func(text string) {
		got := impl.DecodeValue(text)
		if got.Code != impl.OK {
			return
		}
		if code := impl.ValueFault(got.Value); code != impl.OK {
			t.Fatalf("%q: fault %d", text, code)
		}
		checkReadBack(t, got.Value)
	}
	shortTexts("", []string{"[", "]", "{", "}", ",", `"a":`, `"b":`, `"x"`, "1", " "}, 6, check)
	shortTexts(`"`, []string{`\"`, `\\`, `\/`, `\u0022`, `\u005c`, `\u007e`, "/", "a", `"`}, 5, check)
}

func TestDecodeLines(t *testing.T) {
	one := []cells{num(1)}
	cases := []struct {
		text string
		want impl.LinesResult
	}{
		{"", impl.LinesResult{}},
		{"1", impl.LinesResult{Values: one}},
		{"1\n", impl.LinesResult{Values: one}},
		{" 1\t\r\n", impl.LinesResult{Values: one}},
		{"1\n2", impl.LinesResult{Values: []cells{num(1), num(2)}}},
		{"1\n[2,{}]\n\"x\"\n", impl.LinesResult{Values: []cells{num(1), arr(num(2), obj()), str("x")}}},
		{"\n", impl.LinesResult{Code: impl.ErrText}},
		{"1\n\n", impl.LinesResult{Code: impl.ErrText, Line: 1}},
		{"1\n ", impl.LinesResult{Code: impl.ErrText, Line: 1}},
		{"\n1", impl.LinesResult{Code: impl.ErrText}},
		{"1\n\n2", impl.LinesResult{Code: impl.ErrText, Line: 1}},
		{"[1,\n2]", impl.LinesResult{Code: impl.ErrText}},
		{"1\n2\nx", impl.LinesResult{Code: impl.ErrText, Line: 2}},
		{"1\n2\nx\n1.5\n", impl.LinesResult{Code: impl.ErrText, Line: 2}},
		{"1\n1.5\nx\n", impl.LinesResult{Code: impl.ErrRange, Line: 1}},
		{"1\n" + strings.Repeat("[", 21), impl.LinesResult{Code: impl.ErrDeep, Line: 1}},
		{"1\n" + strings.Repeat("[", 20), impl.LinesResult{Code: impl.ErrText, Line: 1}},
		{"1\n" + strings.Repeat("[", 20) + " \n1", impl.LinesResult{Code: impl.ErrText, Line: 1}},
		{strings.Repeat("{\"a\":", 20) + "\n1}", impl.LinesResult{Code: impl.ErrText}},
		{"1\n2\n3\n\"" + strings.Repeat("x", 61) + "\"", impl.LinesResult{Code: impl.ErrMany, Line: 3}},
		{"1\n[" + strings.Repeat("1,", 199) + "1]\n", impl.LinesResult{Code: impl.ErrMany, Line: 1}},
		{"1 2\n", impl.LinesResult{Code: impl.ErrText}},
		{strings.Repeat("1\n", 200), impl.LinesResult{Values: repeat(200, num(1))}},
		{strings.Repeat("1\n", 199) + "1", impl.LinesResult{Values: repeat(200, num(1))}},
		{strings.Repeat("1\n", 201), impl.LinesResult{Code: impl.ErrMany}},
		{strings.Repeat("1\n", 200) + "1", impl.LinesResult{Code: impl.ErrMany}},
		{"x\n" + strings.Repeat("1\n", 200), impl.LinesResult{Code: impl.ErrMany}},
		{strings.Repeat("1\n", 199) + "x", impl.LinesResult{Code: impl.ErrText, Line: 199}},
		{strings.Repeat("\n", 200), impl.LinesResult{Code: impl.ErrText}},
		{strings.Repeat("\n", 201), impl.LinesResult{Code: impl.ErrMany}},
		{"1\n2" + strings.Repeat(" ", 3997), impl.LinesResult{Values: []cells{num(1), num(2)}}},
		{"1\n2" + strings.Repeat(" ", 3998), impl.LinesResult{Code: impl.ErrMany}},
		{"x" + strings.Repeat(" ", 4000), impl.LinesResult{Code: impl.ErrMany}},
		{strings.Repeat("x\n", 4000), impl.LinesResult{Code: impl.ErrMany}},
	}
	for _, c := range cases {
		if got := impl.DecodeLines(c.text); !reflect.DeepEqual(got, c.want) {
			t.Errorf("%.60q: %v, want %v", c.text, got, c.want)
		}
	}
}

func TestLinesTellTheFirstError(t *testing.T) {
	for _, c := range badTexts() {
		if strings.Contains(c.text, "\n") || len(c.text) > 3900 {
			continue
		}
		got := impl.DecodeLines("1\n{}\n" + c.text + "\nx\n")
		if !reflect.DeepEqual(got, impl.LinesResult{Code: c.code, Line: 2}) {
			t.Errorf("%.60q: %v", c.text, got)
		}
	}
}

// P3 of several values: all of them, and each beginning of them.
func TestListsAreReadBack(t *testing.T) {
	list := rising()
	for n := range list {
		text := impl.EncodeAll(list[:n])
		got := impl.DecodeLines(text.Text)
		if text.Code != impl.OK || got.Code != impl.OK || !slices.EqualFunc(got.Values, list[:n], slices.Equal[cells]) {
			t.Errorf("%d values: %v", n, got)
		}
		if cut := impl.DecodeLines(strings.TrimSuffix(text.Text, "\n")); !reflect.DeepEqual(cut, got) {
			t.Errorf("%d values without the last line feed: %v", n, cut)
		}
	}
}

func callAllTexts(a, b cells, text string, at int64) []any {
	return []any{
		impl.EncodeValue(a), impl.DecodeValue(text), impl.EncodeString(text), impl.DecodeNumber(text),
		impl.EncodeAll([]cells{a, b}), impl.EncodeAll([]cells{b}), impl.DecodeLines(text), impl.SkipBlanks(text, at),
		impl.DecodeValue(impl.EncodeValue(a).Text), impl.DecodeLines(impl.EncodeAll([]cells{a, b}).Text),
	}
}

// P1 of this chapter.
func TestTextsArgumentsStayAndAnswersAreNew(t *testing.T) {
	pool := sound()
	for _, c := range faulty() {
		pool = append(pool, c.v)
	}
	texts := []string{"", "1", "1\n2\n", " [1,{\"a\":[]}]", "[1\n", strings.Repeat("1", 4000), strings.Repeat(" ", 4001), "\x00\x80\xff", "[[],[],{\"b\":1,\"a\":2}]\n[]"}
	for i, v := range pool {
		a := append(slices.Clone(v), impl.Cell{Kind: 42})
		b := append(slices.Clone(pool[(i+7)%len(pool)]), impl.Cell{Kind: 43})
		beforeA, beforeB := slices.Clone(a), slices.Clone(b)
		for _, text := range texts {
			for _, at := range []int64{math.MinInt64, -1, 0, 1, int64(len(text)), int64(len(text)) + 1, math.MaxInt64} {
				first := callAllTexts(a[:len(v)], b[:len(b)-1], text, at)
				kept := callAllTexts(a[:len(v)], b[:len(b)-1], text, at)
				checkApart(t, first, a, b)
				scribble(first)
				again := callAllTexts(a[:len(v)], b[:len(b)-1], text, at)
				if !reflect.DeepEqual(kept, again) {
					t.Errorf("value %d, text %.40q, at %d: %v, then %v", i, text, at, kept, again)
				}
			}
		}
		if !slices.Equal(a, beforeA) || !slices.Equal(b, beforeB) {
			t.Errorf("value %d: an argument was changed", i)
		}
	}
	list := []cells{num(1), arr(str("x"))}
	impl.EncodeAll(list)
	if !reflect.DeepEqual(list, []cells{num(1), arr(str("x"))}) {
		t.Error("a list was changed", list)
	}
}
