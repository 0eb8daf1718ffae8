package tests

import (
	"math"
	"strconv"
	"strings"
	"testing"

	"loop.example/g00166/impl"
)

func checkPretty(t *testing.T, v cells, indent int64, want impl.TextResult) {
	t.Helper()
	if got := impl.PrettyValue(v, indent); got != want {
		t.Errorf("%s by %d: %q, want %q", short(v), indent, short(got), short(want))
	}
	if got, size := impl.SizeText(v, indent), (impl.IntResult{Code: want.Code, Value: int64(len(want.Text))}); got != size {
		t.Errorf("%s by %d: %v, want %v", short(v), indent, got, size)
	}
	if got := modelPretty(sampleOf(v), indent); got != want {
		t.Errorf("%s by %d: the model tells %q, want %q", short(v), indent, short(got), short(want))
	}
}

func TestPrettyValue(t *testing.T) {
	for _, c := range []struct {
		v      string
		indent int64
		want   string
	}{
		// One line.
		{`null`, 2, "null"}, {`false`, 0, "false"}, {`true`, 8, "true"}, {`-7`, 1, "-7"}, {`"a:b,[c]{d}"`, 2, `"a:b,[c]{d}"`}, {`"\"\\"`, 2, `"\"\\"`}, {`[]`, 2, "[]"}, {`{}`, 2, "{}"}, {`[]`, 0, "[]"},
		// Arrays and objects.
		{`[1]`, 0, "[\n1\n]"}, {`[1]`, 1, "[\n 1\n]"}, {`[1]`, 8, "[\n        1\n]"}, {`[1,2,null]`, 2, "[\n  1,\n  2,\n  null\n]"}, {`[1,2,null]`, 0, "[\n1,\n2,\nnull\n]"}, {`{"a":1}`, 0, "{\n\"a\": 1\n}"}, {`{"a":1}`, 3, "{\n   \"a\": 1\n}"}, {`{"b":"x","a":true}`, 1, "{\n \"a\": true,\n \"b\": \"x\"\n}"}, {`{"":""}`, 1, "{\n \"\": \"\"\n}"}, {`{"a\"b":"\\","c:d":"e: f"}`, 1, "{\n \"a\\\"b\": \"\\\\\",\n \"c:d\": \"e: f\"\n}"}, {`["[",",","]","{:}"]`, 1, "[\n \"[\",\n \",\",\n \"]\",\n \"{:}\"\n]"},
		// Empty ones are told on their line.
		{`[[],{}]`, 2, "[\n  [],\n  {}\n]"}, {`{"a":[],"b":{}}`, 2, "{\n  \"a\": [],\n  \"b\": {}\n}"}, {`[[[]]]`, 1, "[\n [\n  []\n ]\n]"}, {`{"a":{"b":{}}}`, 0, "{\n\"a\": {\n\"b\": {}\n}\n}"},
		// Within one another.
		{`{"a":[1,2],"b":null}`, 1, "{\n \"a\": [\n  1,\n  2\n ],\n \"b\": null\n}"}, {`[[1],[2,3],4]`, 2, "[\n  [\n    1\n  ],\n  [\n    2,\n    3\n  ],\n  4\n]"}, {`[{"a":[{"b":1}]},5]`, 3, "[\n   {\n      \"a\": [\n         {\n            \"b\": 1\n         }\n      ]\n   },\n   5\n]"}, {`{"a":{"b":1,"c":[2]},"d":3}`, 0, "{\n\"a\": {\n\"b\": 1,\n\"c\": [\n2\n]\n},\n\"d\": 3\n}"}, {`[1,[2,[3]],{"k":[]}]`, 2, "[\n  1,\n  [\n    2,\n    [\n      3\n    ]\n  ],\n  {\n    \"k\": []\n  }\n]"},
	} {
		checkPretty(t, val(c.v), c.indent, impl.TextResult{Text: c.want})
	}
	var opened, ended string
	for n := range 19 {
		opened += "[\n" + strings.Repeat("        ", n+1)
		ended = "\n" + strings.Repeat("        ", n) + "]" + ended
	}
	checkPretty(t, nested(20), 8, impl.TextResult{Text: opened + "1" + ended})
	checkPretty(t, emptyIn(20), 8, impl.TextResult{Text: opened + "[]" + ended})
}

// The fault of the value, and then the indent, ahead of all else.
func TestPrettyCodes(t *testing.T) {
	indents := append([]int64{5, 7, 8, 9, 10, 16, 1 << 32, 1<<32 + 2, -1 << 32, math.MinInt64 + 2}, farNumbers...)
	for i, c := range faulty() {
		checkPretty(t, c.v, 2, impl.TextResult{Code: c.code})
		checkPretty(t, c.v, indents[i%len(indents)], impl.TextResult{Code: c.code})
		checkPretty(t, c.v, -1, impl.TextResult{Code: c.code})
		checkPretty(t, c.v, 9, impl.TextResult{Code: c.code})
	}
	for _, indent := range indents {
		if indent >= 0 && indent <= 8 {
			checkPretty(t, val(`[1]`), indent, impl.TextResult{Text: "[\n" + strings.Repeat(" ", int(indent)) + "1\n]"})
			continue
		}
		for _, v := range []cells{null(), arr(), val(`{"a":[1,2]}`), wordyValue(148, 60)} {
			checkPretty(t, v, indent, impl.TextResult{Code: impl.ErrRange})
		}
	}
}

// wordyValue has n members 19 deep, with keys of 60 bytes that are all told with a
// backslash, and strings of so many bytes, that of the last one told so, too.
func wordyValue(n, size int) cells {
	var members []cells
	for i := range n {
		key := strings.NewReplacer("0", `"`, "1", `\`).Replace(strconv.FormatInt(1<<59|int64(i), 2))
		members = append(members, member(key, str(strings.Repeat(`"`, size))))
	}
	v := obj(members...)
	for range 18 {
		v = arr(v)
	}
	return v
}

// paddedTo has strings more in its outermost array, so that it is printed with so many
// bytes.
func paddedTo(size int, v cells, indent int) cells {
	m, _ := readModel(v)
	list := []cells{m.kids[0].lay()}
	// A comma, a line feed, the indent and two quotes.
	bare := 4 + indent
	left := size - len(modelPretty(sampleOf(v), int64(indent)).Text)
	for left > 0 {
		content := min(left-bare, 120)
		if rest := left - bare - content; rest > 0 && rest < bare {
			content -= bare
		}
		list = append(list, str(strings.Repeat("x", content%2)+strings.Repeat(`"`, content/2)))
		left -= bare + content
	}
	return arr(list...)
}

// Values that are printed with each number of bytes about MaxPrint.
func TestPrettyMostBytes(t *testing.T) {
	for _, indent := range []int{5, 6, 7, 8} {
		n := 181
		room := func() int { return 59900 - len(modelPretty(sampleOf(wordyValue(n, 60)), int64(indent)).Text) }
		for room() < 0 || room() == 59900 {
			n--
		}
		v := wordyValue(n, 60)
		for size := 59990; size <= 60010; size++ {
			padded := paddedTo(size, v, indent)
			want := modelPretty(sampleOf(padded), int64(indent))
			if size <= impl.MaxPrint && len(want.Text) != size || size > impl.MaxPrint && want.Code != impl.ErrMany {
				t.Fatalf("%d by %d: %d bytes, %d", size, indent, len(want.Text), want.Code)
			}
			checkPretty(t, padded, int64(indent), want)
			checkPretty(t, padded, 0, modelPretty(sampleOf(padded), 0))
		}
	}
	for indent := range int64(9) {
		// The longest there are by this indent, or nearly so.
		want := modelPretty(sampleOf(wordyValue(181, 60)), indent)
		if indent < 4 && len(want.Text) < 40000 || indent > 3 && want.Code != impl.ErrMany {
			t.Error(indent, want.Code, len(want.Text))
		}
		checkPretty(t, wordyValue(181, 60), indent, want)
	}
}

func checkFlat(t *testing.T, v cells, want impl.TextResult) {
	t.Helper()
	if got := impl.FlatText(v); got != want {
		t.Errorf("%s: %q, want %q", short(v), short(got), short(want))
	}
	if got := modelFlat(sampleOf(v)); got != want {
		t.Errorf("%s: the model tells %q, want %q", short(v), short(got), short(want))
	}
}

func TestFlatText(t *testing.T) {
	for _, c := range []struct{ v, want string }{
		{`null`, ". = null\n"}, {`false`, ". = false\n"}, {`true`, ". = true\n"}, {`-7`, ". = -7\n"}, {`""`, ". = \"\"\n"}, {`"a = b"`, ". = \"a = b\"\n"}, {`[]`, ". = []\n"}, {`{}`, ". = {}\n"},
		{`[1]`, ".[0] = 1\n"}, {`[null,[],{}]`, ".[0] = null\n.[1] = []\n.[2] = {}\n"}, {`{"a":1}`, ".[\"a\"] = 1\n"}, {`{"b":1,"a":"x"}`, ".[\"a\"] = \"x\"\n.[\"b\"] = 1\n"}, {`{"":0}`, ".[\"\"] = 0\n"}, {`{"\"\\":"\\\""}`, ".[\"\\\"\\\\\"] = \"\\\\\\\"\"\n"}, {`{"] = 1":2}`, ".[\"] = 1\"] = 2\n"}, {`{"0":1}`, ".[\"0\"] = 1\n"},
		{`{"a":[1,2],"b":null}`, ".[\"a\"][0] = 1\n.[\"a\"][1] = 2\n.[\"b\"] = null\n"}, {`[[1],[2,[3]],[[]]]`, ".[0][0] = 1\n.[1][0] = 2\n.[1][1][0] = 3\n.[2][0] = []\n"}, {`{"a":{"b":{"c":{}}},"d":[{"e":5}]}`, ".[\"a\"][\"b\"][\"c\"] = {}\n.[\"d\"][0][\"e\"] = 5\n"},
	} {
		checkFlat(t, val(c.v), impl.TextResult{Text: c.want})
		checkRead(t, c.want, impl.UnflatText(c.want), impl.ReadResult{Value: val(c.v)})
	}
	for _, c := range faulty() {
		checkFlat(t, c.v, impl.TextResult{Code: c.code})
	}
	checkFlat(t, nested(20), impl.TextResult{Text: "." + strings.Repeat("[0]", 19) + " = 1\n"})
	checkFlat(t, emptyIn(20), impl.TextResult{Text: "." + strings.Repeat("[0]", 19) + " = []\n"})
	// No text is too long to be told.
	most := wordyValue(181, 60)
	if got := impl.FlatText(most); got != modelFlat(sampleOf(most)) || len(got.Text) != 181*(1+18*3+124+3+122+1) {
		t.Error(got.Code, len(got.Text))
	}
}

func checkUnflat(t *testing.T, text string, want impl.ReadResult) {
	t.Helper()
	checkRead(t, strconv.Quote(text), impl.UnflatText(text), want)
	checkRead(t, "the model of "+strconv.Quote(text), modelUnflat(text), want)
}

func codeOf(code, at int64) impl.ReadResult { return impl.ReadResult{Code: code, At: at} }

// Lines that are not a PathText, ` = ` and an EncodeValue of a leaf: each alone, and
// among others, whose fault comes behind it.
func TestUnflatTextLines(t *testing.T) {
	for _, line := range []string{
		"", " ", "x", ".", ". ", ". =", ". = ", "= 1", " = 1", " = ", "1", ".[0]", ".[0] =", ".[0] = ", "null", "[0] = 1", "[] = 1",
		// Blanks.
		" . = 1", ". = 1 ", ".  = 1", ". =  1", ".=1", ". =1", ".= 1", ".\t= 1", ". =\t1", ". = 1\r", ".\r = 1", ".[ 0] = 1", ".[0 ] = 1", ". [0] = 1", ".[0] [1] = 1", ".[\"a\" ] = 1", ".[0]  = 1", ". = [ ]", ". = { }", "\x00", ". = 1\x00",
		// Paths told otherwise, and what is no path.
		".[] = 1", ".[null] = 1", ".[true] = 1", ".[[]] = 1", ".[{}] = 1", ".[[0]] = 1", ".[[\"a\"]] = 1", ".[0,1] = 1", ".[\"a\",0] = 1", ".[0 = 1", ".0] = 1", ".[0]] = 1", ".[0][ = 1", ".[0][] = 1", "..[0] = 1", ".[0]. = 1", ".[0].[1] = 1", ".a = 1", ".[a] = 1", ".['a'] = 1", ".[-0] = 1", ".[00] = 1", ".[01] = 1", ".[+1] = 1", ".[1.0] = 1", ".[1e1] = 1", ".[-] = 1", ".[\"a] = 1", ".[a\"] = 1", ".[\"\\/\"] = 1", ".[\"\\u0041\"] = 1", ".[\"\\n\"] = 1", ".[\"\t\"] = 1", ".[\"\x7f\"] = 1", ".[\"\xc3\xa9\"] = 1", ".[1000000000000001] = 1", ".[-1000000000000001] = 1", ".[99999999999999999999] = 1", ".[\"" + strings.Repeat("k", 61) + "\"] = 1", "." + strings.Repeat("[0]", 200) + " = 1", "." + strings.Repeat("[\"a\"]", 201) + " = 1",
		// Leaves told otherwise, and what is no leaf.
		". = nul", ". = nulll", ". = Null", ". = -0", ". = 00", ". = 01", ". = +1", ". = -", ". = 1.0", ". = 1e1", ". = 1000000000000001", ". = -1000000000000001", ". = 1 2", ". = 1,", ". = 1]", ". = \"", ". = \"a", ". = a\"", ". = \"a\"b", ". = \"a\"\"", ". = \"\\/\"", ". = \"\\u0041\"", ". = \"\\\"", ". = \"\x1f\"", ". = \"" + strings.Repeat("x", 61) + "\"", ". = [", ". = ]", ". = {", ". = }", ". = [1]", ". = [null]", ". = [[]]", ". = {\"a\":1}", ". = {\"\":null}", ". = [] []", ". = []]", ". = {}}", ". = [}", ". = . = 1", ". = " + strings.Repeat("[", 20) + strings.Repeat("]", 20), ".[0] = [1,2]", ".[\"a\"] = {\"b\":[]}", ". = [" + strings.Repeat("1,", 200) + "1]",
		// Other words between.
		". == 1", ". : 1", ".: 1", ".[0]= 1", ".[0] =1", ".[0]=1", ".[0] 1", ".[0] = = 1", ".[0] == 1", ".[0]\x00= 1",
	} {
		wrong := codeOf(impl.ErrText, 0)
		if line != "" {
			checkUnflat(t, line, wrong)
		}
		checkUnflat(t, line+"\n", wrong)
		checkUnflat(t, line+"\n.[0] = 1\n.[-5] = 1\nx\n", wrong)
		checkUnflat(t, ".[0] = 1\n"+line+"\n", codeOf(impl.ErrText, 1))
		checkUnflat(t, ".[1] = 1\n.[0] = 1\n.[1] = 2\n"+line+"\n.[\"a\"] = 1", codeOf(impl.ErrText, 3))
		// What SetPath tells of a line ahead of it comes ahead.
		checkUnflat(t, ".[0] = 1\n.[\"a\"] = 1\n"+line+"\n", codeOf(impl.ErrKind, 1))
	}
}

// Lines that are as they must be, but do not come to a value's text together.
func TestUnflatTextCodes(t *testing.T) {
	for _, c := range []struct {
		text     string
		code, at int64
	}{
		// What SetPath tells, at its line.
		{".[\"a\"] = 1\n.[0] = 1\n", impl.ErrKind, 1}, {".[0] = 1\n.[\"a\"] = 1\n", impl.ErrKind, 1}, {". = 1\n.[0] = 1\n", impl.ErrKind, 1}, {". = []\n.[\"a\"] = 1\n", impl.ErrKind, 1}, {". = {}\n.[0] = 1\n", impl.ErrKind, 1}, {".[0] = 1\n.[1] = 2\n.[1][0] = 3\nx\n", impl.ErrKind, 2}, {".[\"a\"][0] = \"x\"\n.[\"a\"][0][\"b\"] = 1", impl.ErrKind, 1},
		{".[-1] = 1\n", impl.ErrRange, 0}, {".[-1] = 1", impl.ErrRange, 0}, {".[\"a\"][-1] = 1\n", impl.ErrRange, 0}, {".[0] = 1\n.[-2] = 1\n", impl.ErrRange, 1}, {".[-1000000000000000] = 1\n", impl.ErrRange, 0},
		{".[200] = 1\n", impl.ErrMany, 0}, {".[199] = 1\n", impl.ErrMany, 0}, {".[0] = 1\n.[1000000000000000] = 1\n", impl.ErrMany, 1}, {".[0] = 1\n.[1][198] = 1\n", impl.ErrMany, 1}, {".[98] = null\n.[97][99] = 1\n.[96] = 1\n.[96][0] = 1\n", impl.ErrKind, 3}, {".[98] = null\n.[97][100] = 1\n", impl.ErrMany, 1},
		{"." + strings.Repeat("[0]", 20) + " = 1\n", impl.ErrDeep, 0}, {"." + strings.Repeat("[0]", 19) + " = 1\n." + strings.Repeat("[1]", 20) + " = 1\n", impl.ErrDeep, 1}, {"." + strings.Repeat("[0]", 199) + " = 1\n", impl.ErrDeep, 0}, {"." + strings.Repeat("[\"a\"]", 199) + " = 1\n", impl.ErrDeep, 0},
		// No line at all, and a last line without its line feed.
		{"", impl.ErrForm, 0}, {". = null", impl.ErrForm, 0}, {". = 1", impl.ErrForm, 0}, {".[0] = 1", impl.ErrForm, 0}, {".[0] = 1\n.[1] = 2", impl.ErrForm, 0},
		// The order of lines, a line twice, and lines that are missing or too many.
		{".[1] = 2\n.[0] = 1\n", impl.ErrForm, 0}, {".[\"b\"] = 1\n.[\"a\"] = 2\n", impl.ErrForm, 0}, {".[0] = 1\n.[0] = 1\n", impl.ErrForm, 0}, {".[0] = 1\n.[0] = 2\n", impl.ErrForm, 0}, {". = 1\n. = 1\n", impl.ErrForm, 0}, {". = 1\n. = 2\n", impl.ErrForm, 0}, {". = null\n. = null\n", impl.ErrForm, 0}, {".[1] = 1\n", impl.ErrForm, 0}, {".[0] = 1\n.[2] = 1\n", impl.ErrForm, 0}, {".[198] = 1\n", impl.ErrForm, 0}, {". = null\n.[0] = 1\n", impl.ErrForm, 0}, {". = []\n.[0] = 1\n", impl.ErrForm, 0}, {". = {}\n.[\"a\"] = 1\n", impl.ErrForm, 0}, {".[0] = []\n.[0][0] = 1\n", impl.ErrForm, 0}, {".[0] = null\n.[0][0] = 1\n", impl.ErrForm, 0}, {".[\"a\"] = 1\n. = 7\n", impl.ErrForm, 0}, {".[0][0] = 1\n.[0] = 2\n", impl.ErrForm, 0}, {".[\"a\"][0] = 1\n.[\"b\"] = 2\n.[\"a\"][1] = 3\n", impl.ErrForm, 0},
		// Places from the end are told from the beginning.
		{".[0] = 1\n.[-1] = 1\n", impl.ErrForm, 0}, {".[0] = 1\n.[-1] = 2\n", impl.ErrForm, 0}, {".[0][0] = 1\n.[-1][1] = 2\n", impl.ErrForm, 0},
	} {
		checkUnflat(t, c.text, codeOf(c.code, c.at))
	}
}

// Texts of MaxText bytes and of one more, lines of which there are many, and strings
// and numbers at their bounds.
func TestUnflatTextBounds(t *testing.T) {
	long := strings.Repeat("k", 60)
	for _, c := range []struct{ text, v string }{
		{".[\"" + long + "\"] = \"" + long + "\"\n", `{"` + long + `":"` + long + `"}`}, {". = 1000000000000000\n", `1000000000000000`}, {". = -1000000000000000\n", `-1000000000000000`}, {"." + strings.Repeat("[0]", 19) + " = {}\n", strings.Repeat("[", 19) + "{}" + strings.Repeat("]", 19)}, {"." + strings.Repeat("[\"\"]", 19) + " = []\n", strings.Repeat(`{"":`, 19) + "[]" + strings.Repeat("}", 19)},
	} {
		checkUnflat(t, c.text, impl.ReadResult{Value: val(c.v)})
	}
	// 199 lines are as many as a value has.
	checkUnflat(t, impl.FlatText(numbersUpTo(199)).Text, impl.ReadResult{Value: numbersUpTo(199)})
	checkUnflat(t, impl.FlatText(arr(repeat(199, arr())...)).Text, impl.ReadResult{Value: arr(repeat(199, arr())...)})
	checkUnflat(t, impl.FlatText(numbersUpTo(199)).Text+".[199] = 0\n", codeOf(impl.ErrMany, 199))
	checkUnflat(t, impl.FlatText(numbersUpTo(199)).Text+"x", codeOf(impl.ErrText, 199))
	checkUnflat(t, strings.Repeat(". = 1\n", 300), codeOf(impl.ErrForm, 0))
	checkUnflat(t, strings.Repeat(". = 1\n", 300)+"x", codeOf(impl.ErrText, 300))
	checkUnflat(t, strings.Repeat(". = 1\n", 300)+".[0] = 1\n", codeOf(impl.ErrKind, 300))
	var members []cells
	for n := range 30 {
		members = append(members, member("k"+strconv.Itoa(100+n)+long[:56], str(long)))
	}
	full := impl.FlatText(obj(members...)).Text
	tail := impl.MaxText - len(full) - len(".[\"z\"] = \"\"\n")
	if tail < 0 || tail > 59 {
		t.Fatal(len(full), tail)
	}
	for more := range 2 {
		v := obj(append(members[:30:30], member("z", str(long[:tail+more])))...)
		text := impl.FlatText(v).Text
		if len(text) != impl.MaxText+more || text != modelFlat(sampleOf(v)).Text {
			t.Fatal(len(text))
		}
		if more == 0 {
			checkUnflat(t, text, impl.ReadResult{Value: v})
			checkUnflat(t, text[:3999], codeOf(impl.ErrForm, 0))
			checkUnflat(t, "x"+text[:3999], codeOf(impl.ErrText, 0))
		} else {
			checkUnflat(t, text, codeOf(impl.ErrMany, 0))
			checkUnflat(t, text[:4000], codeOf(impl.ErrForm, 0))
		}
		checkUnflat(t, "xx"+text[:3999], codeOf(impl.ErrMany, 0))
	}
	checkUnflat(t, strings.Repeat("\n", 4000), codeOf(impl.ErrText, 0))
	checkUnflat(t, strings.Repeat("\n", 4001), codeOf(impl.ErrMany, 0))
	checkUnflat(t, strings.Repeat("x", 4001), codeOf(impl.ErrMany, 0))
	checkUnflat(t, strings.Repeat(".[-1] = 1\n", 401), codeOf(impl.ErrMany, 0))
	checkUnflat(t, strings.Repeat("[", 4000), codeOf(impl.ErrText, 0))
	checkUnflat(t, "."+strings.Repeat("[0]", 1331)+" = 1\n", codeOf(impl.ErrText, 0))
	checkUnflat(t, ".["+strings.Repeat("[", 3900), codeOf(impl.ErrText, 0))
}

// Lines with each leaf there may be at each path.
func TestUnflatTextLeaves(t *testing.T) {
	for _, path := range []string{"", "[0]", "[0][0]", `["a"]`, `["a"][0]`, `[0]["a"]`, `["."]`, `[" = "]`, `["]["]["["]`, `["\\"]["\""]`, `["0"]`, `["-1"]`, `["null"]`} {
		for _, leaf := range []string{"null", "false", "true", "0", "-1", "12", `""`, `"a"`, `" = "`, `".[0] = 1"`, `"\\\""`, "[]", "{}"} {
			text := "." + path + " = " + leaf + "\n"
			got := impl.UnflatText(text)
			checkUnflat(t, text, got)
			if got.Code != 0 || impl.FlatText(got.Value).Text != text {
				t.Errorf("%q: %s", text, short(got))
			}
		}
	}
}
