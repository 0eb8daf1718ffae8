package tests

import (
	"reflect"
	"slices"
	"strconv"
	"strings"
	"testing"

	"loop.example/g00166/impl"
)

// parsed is an answer as a text: that of its tree as the model makes it, or "!",
// its code and its place.
func parsed(r impl.ProgramResult) string {
	place := " at " + strconv.FormatInt(r.At, 10)
	if r.Code != 0 {
		return code(r.Code) + place + strings.Repeat(" and a tree", min(1, len(r.Tree)))
	}
	if fault := modelTreeFault(r.Tree); fault != 0 || r.At != 0 {
		return "a tree with the fault " + code(fault) + place
	}
	return branchOf(r.Tree).String()
}

// checkParsed holds an answer, and the model's, against what is told by hand.
func checkParsed(t *testing.T, text, want string) {
	t.Helper()
	if got := parsed(impl.ParseProgram(text)); got != want {
		t.Errorf("%.100q: %s, want %s", text, short(got), short(want))
	}
	if got := parsed(modelParse(text)); got != want {
		t.Errorf("%.100q: the model has %s, want %s", text, short(got), short(want))
	}
}

func checkParse(t *testing.T, text string) {
	t.Helper()
	got, want := impl.ParseProgram(text), modelParse(text)
	if got.Code != want.Code || got.At != want.At || !slices.Equal(got.Tree, want.Tree) {
		t.Fatalf("%q: %v, want %v", text, got, want)
	}
}

func wrongAt(code, at int64) string {
	return parsed(impl.ProgramResult{Code: code, At: at})
}

// treeOf is the tree of a text as the model reads it.
func treeOf(text string) []impl.Node {
	read := modelParse(text)
	if read.Code != 0 {
		panic(text)
	}
	return read.Tree
}

// The nodes of some programs, one by one.
func TestParseNodes(t *testing.T) {
	cases := map[string][]impl.Node{
		".":                                    {{Op: impl.NodeSelf}},
		"..":                                   {{Op: impl.NodeDeep}},
		"12":                                   {{Op: impl.NodeNumber, Num: 12}},
		`"a"`:                                  {{Op: impl.NodeString, Text: "a"}},
		"null":                                 {{Op: impl.NodeWord}},
		"false":                                {{Op: impl.NodeWord, Num: 1}},
		"true":                                 {{Op: impl.NodeWord, Num: 2}},
		"$x":                                   {{Op: impl.NodeVar, Text: "x"}},
		"f":                                    {{Op: impl.NodeCall, Text: "f"}},
		"[]":                                   {{Op: impl.NodeNone}},
		"{}":                                   {{Op: impl.NodeBare}},
		".a":                                   {{Op: impl.NodeSelf}, {Op: impl.NodeString, Text: "a"}, {Op: impl.NodeAt, A: 0, B: 1}},
		"1|2":                                  {{Op: impl.NodeNumber, Num: 1}, {Op: impl.NodeNumber, Num: 2}, {Op: impl.NodePipe, A: 0, B: 1}},
		"1,2,3":                                {{Op: impl.NodeNumber, Num: 1}, {Op: impl.NodeNumber, Num: 2}, {Op: impl.NodeComma, A: 0, B: 1}, {Op: impl.NodeNumber, Num: 3}, {Op: impl.NodeComma, A: 2, B: 3}},
		"1//2//3":                              {{Op: impl.NodeNumber, Num: 1}, {Op: impl.NodeNumber, Num: 2}, {Op: impl.NodeNumber, Num: 3}, {Op: impl.NodeAlt, A: 1, B: 2}, {Op: impl.NodeAlt, A: 0, B: 3}},
		". or ..":                              {{Op: impl.NodeSelf}, {Op: impl.NodeDeep}, {Op: impl.NodeOr, A: 0, B: 1}},
		". and ..":                             {{Op: impl.NodeSelf}, {Op: impl.NodeDeep}, {Op: impl.NodeAnd, A: 0, B: 1}},
		".%1":                                  {{Op: impl.NodeSelf}, {Op: impl.NodeNumber, Num: 1}, {Op: impl.NodeBin, A: 0, B: 1, Num: impl.OpMod}},
		".[]?":                                 {{Op: impl.NodeSelf}, {Op: impl.NodeEach}, {Op: impl.NodeTry, A: 1}},
		".[$x]":                                {{Op: impl.NodeSelf}, {Op: impl.NodeVar, Text: "x"}, {Op: impl.NodeAt, A: 0, B: 1}},
		"[.]":                                  {{Op: impl.NodeSelf}, {Op: impl.NodeList}},
		"try .":                                {{Op: impl.NodeSelf}, {Op: impl.NodeTry}},
		"f(.)":                                 {{Op: impl.NodeSelf}, {Op: impl.NodeCallOne, Text: "f"}},
		`{a:1,"b":.}`:                          {{Op: impl.NodeBare}, {Op: impl.NodeNumber, Num: 1}, {Op: impl.NodeMember, A: 0, B: 1, Text: "a"}, {Op: impl.NodeSelf}, {Op: impl.NodeMember, A: 2, B: 3, Text: "b"}},
		". as $x | $x":                         {{Op: impl.NodeSelf}, {Op: impl.NodeVar, Text: "x"}, {Op: impl.NodeAs, A: 0, B: 1, Text: "x"}},
		"reduce . as $x (0;$x)":                {{Op: impl.NodeSelf}, {Op: impl.NodeNumber}, {Op: impl.NodeVar, Text: "x"}, {Op: impl.NodeReduce, A: 0, B: 1, C: 2, Text: "x"}},
		"if 1 then 2 else 3 end":               {{Op: impl.NodeNumber, Num: 1}, {Op: impl.NodeNumber, Num: 2}, {Op: impl.NodeNumber, Num: 3}, {Op: impl.NodeIf, A: 0, B: 1, C: 2}},
		"if 1 then 2 elif 3 then 4 else 5 end": {{Op: impl.NodeNumber, Num: 1}, {Op: impl.NodeNumber, Num: 2}, {Op: impl.NodeNumber, Num: 3}, {Op: impl.NodeNumber, Num: 4}, {Op: impl.NodeNumber, Num: 5}, {Op: impl.NodeIf, A: 2, B: 3, C: 4}, {Op: impl.NodeIf, A: 0, B: 1, C: 5}},
	}
	for text, want := range cases {
		for _, text := range []string{text, " " + text + "\n", "(" + text + ")", "((" + text + "))"} {
			if got := impl.ParseProgram(text); !reflect.DeepEqual(got, impl.ProgramResult{Tree: want}) {
				t.Errorf("%q: %v, want %v", text, got, want)
			}
			if got := modelParse(text); !reflect.DeepEqual(got, impl.ProgramResult{Tree: want}) {
				t.Errorf("%q: the model has %v, want %v", text, got, want)
			}
		}
	}
}

func TestParseTerms(t *testing.T) {
	cases := map[string]string{
		".a|.b+1": `(.["a"] | (.["b"] + 1))`,
		".if":     `.["if"]`, ".null": `.["null"]`, "." + name12: `.["` + name12 + `"]`, "$if": "$if", "$null": "$null", "$as": "$as", `"if"`: `"if"`,
		"0": "0", "1000000000000000": "1000000000000000", `""`: `""`, `"\"\\\/\u0041"`: `"\"\\/A"`,
		"[1]": "[1]", "[[]]": "[[]]", "[1,2]": "[(1 , 2)]", "[1|2]": "[(1 | 2)]", "[.[]]": "[.[]]", "[ ]": "[]", "[.as]": `[.["as"]]`, "[1 as $x|2]": "[(1 as $x | 2)]",
		"{ }": "{}", "{a:1}": `{"a":1}`, `{"a":1}`: `{"a":1}`, `{"":1}`: `{"":1}`, `{"if":1}`: `{"if":1}`, `{"a b":1}`: `{"a b":1}`, `{"\"":1}`: `{"\"":1}`, "{iff:1}": `{"iff":1}`, "{length:length}": `{"length":length}`,
		"{a:1,b:2}": `{"a":1,"b":2}`, "{b:1,a:2}": `{"b":1,"a":2}`, "{a:1,a:2}": `{"a":1,"a":2}`, "{a:1,b:2,c:3}": `{"a":1,"b":2,"c":3}`, "{a:{b:{}}}": `{"a":{"b":{}}}`, "{a:{b:1,c:2},d:3}": `{"a":{"b":1,"c":2},"d":3}`,
		"{a:1//2}": `{"a":(1 // 2)}`, "{a:1//2//3,b:4}": `{"a":(1 // (2 // 3)),"b":4}`, "{a:1 or 2}": `{"a":(1 or 2)}`, "{a:1+2*3==4}": `{"a":((1 + (2 * 3)) == 4)}`, "{a:(1,2)}": `{"a":(1 , 2)}`, "{a:(1|2)}": `{"a":(1 | 2)}`, "{a:(1 as $x|2)}": `{"a":(1 as $x | 2)}`, "{a:.b}": `{"a":.["b"]}`, "{a:try .}": `{"a":(try .)}`, "{a:[1,2],b:f(1,2)}": `{"a":[(1 , 2)],"b":f((1 , 2))}`,
		"(1)": "1", "((1))": "1", "(1,2)": "(1 , 2)", "(1 as $x|2)": "(1 as $x | 2)", "(1|2)": "(1 | 2)",
		"f": "f", "f(1)": "f(1)", "f (1)": "f(1)", "f(1,2)": "f((1 , 2))", "f(1|2)": "f((1 | 2))", "f(g(h))": "f(g(h))", "f(1 as $x|$x)": "f((1 as $x | $x))", "f((1))": "f(1)", "f([])": "f([])", "nul": "nul", "iff": "iff", "tru": "tru", "if_": "if_", "length": "length", name12: name12, "_": "_", name12 + "(.)": name12 + "(.)",
		"if 1 then 2 else 3 end":                                                  "(if 1 then 2 else 3 end)",
		"if 1,2 then 3|4 else 5 as $x|6 end":                                      "(if (1 , 2) then (3 | 4) else (5 as $x | 6) end)",
		"if 1 as $x|2 then 3 as $y|4 else 5,6 end":                                "(if (1 as $x | 2) then (3 as $y | 4) else (5 , 6) end)",
		"if 1 then 2 elif 3 then 4 else 5 end":                                    "(if 1 then 2 else (if 3 then 4 else 5 end) end)",
		"if 1 then 2 elif 3 then 4 elif 5 then 6 else 7 end":                      "(if 1 then 2 else (if 3 then 4 else (if 5 then 6 else 7 end) end) end)",
		"if 1 then if 2 then 3 else 4 end else 5 end":                             "(if 1 then (if 2 then 3 else 4 end) else 5 end)",
		"if 1 then 2 else if 3 then 4 else 5 end end":                             "(if 1 then 2 else (if 3 then 4 else 5 end) end)",
		"if if 1 then 2 else 3 end then 4 else 5 end":                             "(if (if 1 then 2 else 3 end) then 4 else 5 end)",
		"if 1 then 2 elif 3,4 then 5|6 else 7 end":                                "(if 1 then 2 else (if (3 , 4) then (5 | 6) else 7 end) end)",
		"if 1 then if 2 then 3 elif 4 then 5 else 6 end elif 7 then 8 else 9 end": "(if 1 then (if 2 then 3 else (if 4 then 5 else 6 end) end) else (if 7 then 8 else 9 end) end)",
		"reduce 1 as $x (2;3)":                                                    "(reduce 1 as $x (2 ; 3))",
		"reduce .[] as $x (0; . + $x)":                                            "(reduce .[] as $x (0 ; (. + $x)))",
		"reduce .a[]? as $if (1,2;3|4)":                                           `(reduce (try .["a"][]) as $if ((1 , 2) ; (3 | 4)))`,
		"reduce (1,2) as $x (3 as $y|4;5 as $z|6)":                                "(reduce (1 , 2) as $x ((3 as $y | 4) ; (5 as $z | 6)))",
		"reduce try . as $x (1;2)":                                                "(reduce (try .) as $x (1 ; 2))",
		"reduce reduce 1 as $x (2;3) as $y (4;5)":                                 "(reduce (reduce 1 as $x (2 ; 3)) as $y (4 ; 5))",
		"reduce f(1) as $x (2;3)":                                                 "(reduce f(1) as $x (2 ; 3))",
		"try 1":                                                                   "(try 1)", "try .a.b": `(try .["a"]["b"])`, "try try 1": "(try (try 1))", "try (1,2)": "(try (1 , 2))", "try f(1)": "(try f(1))", "try null": "(try null)", "try if 1 then 2 else 3 end": "(try (if 1 then 2 else 3 end))", "try error": "(try error)",
	}
	for text, want := range cases {
		checkParsed(t, text, want)
	}
}

// Where a post ends: what stands behind a term is about it, and of try within.
func TestParsePosts(t *testing.T) {
	terms := map[string]string{
		". ": ".", "..": "..", ".a": `.["a"]`, "1": "1", `"s"`: `"s"`, "$x": "$x", "null": "null", "false": "false", "true": "true", "(1,2)": "(1 , 2)", "(1)": "1", "[]": "[]", "[1]": "[1]", "{}": "{}", "{a:1}": `{"a":1}`,
		"if 1 then 2 else 3 end": "(if 1 then 2 else 3 end)", "reduce 1 as $x (2;3)": "(reduce 1 as $x (2 ; 3))", "f": "f", "f(1)": "f(1)",
	}
	endings := map[string][2]string{
		".b": {"", `["b"]`}, ".if": {"", `["if"]`}, "[]": {"", "[]"}, "[ ]": {"", "[]"}, "[0]": {"", "[0]"}, "[[]]": {"", "[[]]"}, "[1,2]": {"", "[(1 , 2)]"}, "[1|2]": {"", "[(1 | 2)]"}, "[1 as $y|2]": {"", "[(1 as $y | 2)]"}, "[.c[]?]": {"", `[(try .["c"][])]`}, "?": {"(try ", ")"},
	}
	for term, base := range terms {
		checkParsed(t, term, base)
		checkParsed(t, "try "+term, "(try "+base+")")
		for ending, around := range endings {
			one := around[0] + base + around[1]
			checkParsed(t, term+ending, one)
			checkParsed(t, term+" "+ending, one)
			checkParsed(t, "try "+term+ending, "(try "+one+")")
			checkParsed(t, "(try "+term+")"+ending, around[0]+"(try "+base+")"+around[1])
			checkParsed(t, "reduce "+term+ending+" as $v (1;2)", "(reduce "+one+" as $v (1 ; 2))")
			checkParsed(t, term+ending+" as $v | 2", "("+one+" as $v | 2)")
			checkParsed(t, "1 - "+term+ending+"*2", "(1 - ("+one+" * 2))")
			for next, outer := range endings {
				two := outer[0] + one + outer[1]
				checkParsed(t, term+ending+next, two)
				checkParsed(t, "try "+term+ending+next, "(try "+two+")")
				checkParsed(t, term+ending+next+"?[]", "(try "+two+")[]")
			}
		}
	}
	checkParsed(t, ".a.b[0][]?.c??", `(try (try (try .["a"]["b"][0][])["c"]))`)
	checkParsed(t, ".a .b", `.["a"]["b"]`)
	checkParsed(t, "...a", `..["a"]`)
	checkParsed(t, "1.a", `1["a"]`)
	checkParsed(t, "[][]", "[][]")
	checkParsed(t, "[][[]]", "[][[]]")
	checkParsed(t, "{}{", wrongAt(impl.ErrText, 2))
	checkParsed(t, "f(1)(2)", wrongAt(impl.ErrText, 4))
}

// The place where as may stand is behind the post with which a pipe begins.
func TestParseAs(t *testing.T) {
	cases := map[string]string{
		"1 as $x|2": "(1 as $x | 2)", "1 as $x|2|3": "(1 as $x | (2 | 3))", "1 as $x|2,3": "(1 as $x | (2 , 3))", "1|2 as $x|3": "(1 | (2 as $x | 3))", "1 as $x|2 as $y|3": "(1 as $x | (2 as $y | 3))", "1 as $x|2 as $x|3|4": "(1 as $x | (2 as $x | (3 | 4)))", "1|2|3 as $x|4|5": "(1 | (2 | (3 as $x | (4 | 5))))",
		"(1,2) as $x|3": "((1 , 2) as $x | 3)", "(1 as $x|2) as $y|3": "((1 as $x | 2) as $y | 3)", "(1 as $x|2)|3": "((1 as $x | 2) | 3)", "(1 as $x|2),3": "((1 as $x | 2) , 3)", "1+(2 as $x|3)": "(1 + (2 as $x | 3))", "(1+2) as $x|3": "((1 + 2) as $x | 3)",
		"try 1 as $x|2": "((try 1) as $x | 2)", "try .a[]? as $x|2": `((try (try .["a"][])) as $x | 2)`, "try try 1 as $x|2": "((try (try 1)) as $x | 2)", "reduce 1 as $x (2;3) as $y|4": "((reduce 1 as $x (2 ; 3)) as $y | 4)", "[1 as $x|2] as $y|3": "([(1 as $x | 2)] as $y | 3)", "f(1 as $x|2) as $y|3": "(f((1 as $x | 2)) as $y | 3)",
		".[1 as $x|2] as $y|3": "(.[(1 as $x | 2)] as $y | 3)", ".[1][2] as $y|3": "(.[1][2] as $y | 3)", ".[1+2] as $y|3": "(.[(1 + 2)] as $y | 3)", "if 1 then 2 else 3 end as $x|4": "((if 1 then 2 else 3 end) as $x | 4)", "{a:1+2} as $x|3": `({"a":(1 + 2)} as $x | 3)`,
		". as $x|$x": "(. as $x | $x)", ". as $if|$if": "(. as $if | $if)", ". as $as|$as": "(. as $as | $as)", ".as as $as|.as": `(.["as"] as $as | .["as"])`, `"as" as $x|1`: `("as" as $x | 1)`,
	}
	for text, want := range cases {
		checkParsed(t, text, want)
	}
	bad := map[string]int64{
		"1 + . as $x | 2": 6, "1 - 2 as $x|3": 6, "1*2 as $x|3": 4, "1==2 as $x|3": 5, "1 and 2 as $x|3": 8, "1 or 2 as $x|3": 7, "1//2 as $x|3": 5, "1,2 as $x|3": 4, "1,2,3 as $x|4": 6, "1|2,3 as $x|4": 6, "(1,2 as $x|3)": 5, "1*(2) as $x|3": 6, "1*.[2] as $x|3": 7, "1*try 2 as $x|3": 8,
		"{a:1 as $x|2}": 5, "as $x|1": 0, "1 as": 4, "1 as x|2": 5, "1 as .x|2": 5, "1 as $x": 7, "1 as $x,2": 7, "1 as $x|": 8, "1 as $x as $y|2": 8, "1 as $x|as": 8, "1 as 2|3": 5, `1 as "x"|2`: 5, "1 as $x)": 7, "(1 as $x)": 8, "1 as|2": 4, "1 as as": 5, "1 as $x||": 8, "1 as $x (2;3)": 8,
		"1 as $x|2+3 as $y|4": 12, "reduce 1+2 as $x (3;4)": 8, "reduce 1 as $x|2": 14, "try 1+2 as $x|3": 8, "1 | as": 4, `1 "as" $x|2`: 2, "1.as $x|2": 5, "1 $as $x|2": 2,
	}
	for text, at := range bad {
		checkParsed(t, text, wrongAt(impl.ErrText, at))
	}
}

// jointLevels are the signs between two pieces, from those that bind least on.
var jointLevels = []struct {
	signs []string
	side  string
}{
	{[]string{"|"}, "right"}, {[]string{","}, "left"}, {[]string{"//"}, "right"}, {[]string{"or"}, "left"}, {[]string{"and"}, "left"},
	{[]string{"==", "!=", "<", "<=", ">", ">="}, "once"}, {[]string{"+", "-"}, "left"}, {[]string{"*", "/", "%"}, "left"},
}

// bracketed tells how pieces with signs between them are read, by splitting them
// at the sign that binds least; it is wrong where one that may stand once stands
// twice, and tells which.
func bracketed(pieces, signs []string, first int) (string, int) {
	for _, level := range jointLevels {
		var places []int
		for i, sign := range signs {
			if slices.Contains(level.signs, sign) {
				places = append(places, i)
			}
		}
		if len(places) == 0 {
			continue
		}
		split := places[0]
		if level.side == "left" {
			split = places[len(places)-1]
		}
		left, wrongLeft := bracketed(pieces[:split+1], signs[:split], first)
		right, wrongRight := bracketed(pieces[split+1:], signs[split+1:], first+split+1)
		if wrongLeft >= 0 {
			return "", wrongLeft
		}
		if level.side == "once" && len(places) > 1 {
			return "", first + places[1]
		}
		return "(" + left + " " + signs[split] + " " + right + ")", wrongRight
	}
	return pieces[0], -1
}

func checkBinding(t *testing.T, signs ...string) {
	t.Helper()
	pieces := []string{"1"}
	text, places := "1", []int64{}
	for i, sign := range signs {
		piece := strconv.Itoa(i + 2)
		pieces = append(pieces, piece)
		places = append(places, int64(len(text))+1)
		text += " " + sign + " " + piece
	}
	want, wrong := bracketed(pieces, signs, 0)
	if wrong >= 0 {
		want = wrongAt(impl.ErrText, places[wrong])
	}
	checkParsed(t, text, want)
}

// What binds closer, of each sign beside each other.
func TestParseBinding(t *testing.T) {
	var all, few []string
	for _, level := range jointLevels {
		all = append(all, level.signs...)
		few = append(few, level.signs[0])
	}
	if len(all) != 16 {
		t.Fatal(all)
	}
	for _, a := range all {
		checkBinding(t, a)
		for _, b := range all {
			checkBinding(t, a, b)
			for _, c := range all {
				checkBinding(t, a, b, c)
			}
		}
	}
	for _, a := range few {
		for _, b := range few {
			for _, c := range few {
				for _, d := range few {
					checkBinding(t, a, b, c, d)
				}
			}
		}
	}
	checkParsed(t, "1 == 2 == 3", wrongAt(impl.ErrText, 7))
	checkParsed(t, "1 < 2 and 3 < 4", "((1 < 2) and (3 < 4))")
	checkParsed(t, "1 - 2 - 3", "((1 - 2) - 3)")
	checkParsed(t, "1 // 2 // 3", "(1 // (2 // 3))")
	checkParsed(t, "1 | 2 | 3", "(1 | (2 | 3))")
	checkParsed(t, "1 , 2 , 3", "((1 , 2) , 3)")
	checkParsed(t, "1 or 2 and 3 // 4 , 5 | 6", "((((1 or (2 and 3)) // 4) , 5) | 6)")
}

// Each error, and its place, is told by hand.
func TestParseErrors(t *testing.T) {
	cases := map[string]int64{
		"": 0, " ": 1, " \t\n\r ": 5, "\n": 1,
		")": 0, "]": 0, "}": 0, "|": 0, ",": 0, ":": 0, ";": 0, "?": 0, "+": 0, "-": 0, "*": 0, "/": 0, "//": 0, "==": 0, "<": 0, " -1": 1, "1 - -1": 4, "%": 0,
		"then": 0, "elif": 0, "else": 0, "end": 0, "as": 0, "and": 0, "or": 0, "if": 2, "reduce": 6, "try": 3, " try ": 5,
		"1 2": 2, "1 1": 2, "a b": 2, ". a": 2, "..a": 2, "...": 2, ". .": 2, "$x $y": 3, `"a" "b"`: 4, `."a"`: 1, "1 null": 2, "1(2)": 1, "01": 1, "1 [": 3, "null null": 5, ".a 1": 3, "$x(1)": 2, "null(1)": 4, "1 if": 2, "1 try 2": 2, "1 {": 2, "[]{}": 2,
		"(": 1, "( ": 2, "()": 1, "(1": 2, "(1 ": 3, "(1]": 2, "(1;2)": 2, "(1))": 3, "1)": 1, "((1)": 4, "(1,)": 3, "(,1)": 1, "(1|)": 3, "(:)": 1,
		"[": 1, "[1": 2, "[1)": 2, "[,]": 1, "[1,]": 3, "[1 2]": 3, "[|]": 1, "[]]": 2, "[1]]": 3, ".[": 2, ".[)": 2, ".[1": 3, ".[1)": 3, ".[1;2]": 3, ".[1:2]": 3, ".[,]": 2, ".[]1": 3, ".[1,]": 4,
		"{": 1, "{a": 2, "{a:": 3, "{a:1": 4, "{a:1,": 5, "{a:1,}": 5, "{,}": 1, "{a}": 2, "{a,b}": 2, "{a:}": 3, "{:1}": 1, "{a 1}": 3, "{a:1 b:2}": 5, "{a:1|2}": 4, "{a:1;b:2}": 4, "{a::1}": 3, "{1:2}": 1, "{.a:1}": 1, "{$a:1}": 1, "{(1):2}": 1, "{a:1}}": 5, "{a:1)": 4, "{a:1,,b:2}": 5, "{a:1,2}": 5, "{[]:1}": 1, `{"a"}`: 4, `{"a",}`: 4, `{"a":1 "b":2}`: 7, "{{}}": 1,
		"f(": 2, "f()": 2, "f(1": 3, "f(1;2)": 3, "f(1]": 3, "f(,)": 2, "f (": 3, "f(1))": 4, "f(1,)": 4, "f 1": 2, "f g": 2, "f[": 2, "if(1)": 5, "then(1)": 0,
		"if 1": 4, "if then": 3, "if 1 then": 9, "if 1 then 2": 11, "if 1 then 2 end": 12, "if 1 then 2 else": 16, "if 1 then 2 else 3": 18, "if 1 then else 2 end": 10, "if 1 then 2 else end": 17, "if 1 else 2 end": 5, "if 1 2": 5, "if 1 then 2 3": 12, "if 1 then 2 else 3 4": 19, "if 1 then 2 else 3 elif": 19, "if 1 then 2 elif": 16, "if 1 then 2 elif 3": 18, "if 1 then 2 elif 3 else 4 end": 19, "if 1 then 2 elif 3 then 4": 25, "if 1 then 2 elif 3 then 4 end": 26, "if 1 then 2 elif then": 17, "if 1 then 2 else 3 end end": 23, "if 1 then 2 elif 3 then 4 else 5 end end": 37, "if 1 then 2 then 3": 12, "if 1 then 2 elif 3 then 4 elif": 30, "if 1 elif 2": 5, "elif 1 then 2 else 3 end": 0, "if 1) then": 4, "if 1 then 2 else if 3 then 4 else 5 end": 39, `if 1 "then" 2`: 5, "if 1.then 2": 10, "if 1 $then 2": 5,
		"reduce 1": 8, "reduce 1 as": 11, "reduce 1 as x": 12, "reduce 1 as $x": 14, "reduce 1 as $x 2": 15, "reduce 1 as $x (": 16, "reduce 1 as $x ()": 16, "reduce 1 as $x (2": 17, "reduce 1 as $x (2)": 17, "reduce 1 as $x (2,3)": 19, "reduce 1 as $x (2;": 18, "reduce 1 as $x (2;)": 18, "reduce 1 as $x (2;3": 19, "reduce 1 as $x (2;3;4)": 19, "reduce 1 as $x (;3)": 16, "reduce as $x (1;2)": 7, "reduce 1,2 as $x (3;4)": 8, "reduce 1|2 as $x (3;4)": 8, "reduce 1 $x (2;3)": 9, "reduce 1 as $x [2;3]": 15, "reduce 1 as $x (2;3))": 20, "reduce 1 == 2 as $x (3;4)": 9, "reduce 1 as $x as $y (2;3)": 15,
		"try then": 4, "try as": 4, "try ,": 4, "try )": 4, "try +1": 4, "1 + try": 7, "try 1 2": 6, "try ?": 4,
		"1 +": 3, "1 *": 3, "1 ==": 4, "1 and": 5, "1 or": 4, "1 //": 4, "1 ,": 3, "1 |": 3, "1 + + 2": 4, "1 * / 2": 4, "1 and and 2": 6, "1 or or 2": 5, "1 // // 2": 5, "1 / / 2": 4, "1 , , 2": 4, "1 | | 2": 4, "1 and or 2": 6, "1 < = 2": 4, "1 == 2 != 3": 7, "1 < 2 < 3": 6, "1 == 2 + 3 == 4": 11, "1 , 2 == 3 == 4": 11, "1 + 2 )": 6, "1 |)": 3, "1;2": 1, "1:2": 1, "1 as": 4, `1 "or" 2`: 2, "1.or 2": 5, "1 $or 2": 2, `1 "+" 2`: 2, `"(" 1)`: 4, `1 "?"`: 2, `1 "["`: 2,
		"{a:1,if:2}": 5, "[1,[2,[3,{a:4,b:}]]]": 16,
		". # .": 2, "1 = 2": 2, "( #": 2, ") #": 2, "1 1 #": 4, ") $": 2, "((((( 1 $": 8,
	}
	for text, at := range cases {
		checkParsed(t, text, wrongAt(impl.ErrText, at))
	}
}

// A word is no name of a member or a call, but may be one of a field, of a
// variable, and a member's string.
func TestParseWords(t *testing.T) {
	for _, word := range modelWords {
		place := int64(len(word))
		checkParsed(t, "{"+word+":1}", wrongAt(impl.ErrText, 1))
		checkParsed(t, "{a:1,"+word+":1}", wrongAt(impl.ErrText, 5))
		checkParsed(t, `{"`+word+`":1}`, `{"`+word+`":1}`)
		checkParsed(t, `{a:1,"`+word+`":1}`, `{"a":1,"`+word+`":1}`)
		checkParsed(t, "."+word, `.["`+word+`"]`)
		checkParsed(t, "1."+word, `1["`+word+`"]`)
		checkParsed(t, "$"+word, "$"+word)
		checkParsed(t, "1 as $"+word+" | $"+word, "(1 as $"+word+" | $"+word+")")
		checkParsed(t, "reduce 1 as $"+word+" (2;$"+word+")", "(reduce 1 as $"+word+" (2 ; $"+word+"))")
		checkParsed(t, `"`+word+`"`, `"`+word+`"`)
		checkParsed(t, word+"_", word+"_")
		checkParsed(t, "{"+word+"_:"+word+"_(1)}", `{"`+word+`_":`+word+`_(1)}`)
		switch word {
		case "null", "false", "true":
			checkParsed(t, word, word)
			checkParsed(t, word+"(1)", wrongAt(impl.ErrText, place))
		case "if", "reduce", "try":
			checkParsed(t, word, wrongAt(impl.ErrText, place))
			checkParsed(t, word+":1", wrongAt(impl.ErrText, place))
		default:
			checkParsed(t, word, wrongAt(impl.ErrText, 0))
			checkParsed(t, word+"(1)", wrongAt(impl.ErrText, 0))
			checkParsed(t, "1|"+word, wrongAt(impl.ErrText, 2))
			checkParsed(t, "("+word+")", wrongAt(impl.ErrText, 1))
			checkParsed(t, "["+word+"]", wrongAt(impl.ErrText, 1))
		}
		checkParsed(t, "1 as "+word+"|1", wrongAt(impl.ErrText, 5))
	}
	for _, name := range []string{"a", "iff", "i", "_", "map", "length", "catch", "nulls", name12} {
		checkParsed(t, "{"+name+":1}", `{"`+name+`":1}`)
		checkParsed(t, name, name)
		checkParsed(t, name+"(1)", name+"(1)")
	}
}

// The code of LexProgram, and its place, come ahead of all that the rules ask.
func TestParseTokenErrors(t *testing.T) {
	many := strings.Repeat("1 ", 300)
	cases := map[string]string{
		"#": wrongAt(impl.ErrText, 0), ") #": wrongAt(impl.ErrText, 2), "1 1000000000000001": wrongAt(impl.ErrRange, 2), `) "` + strings.Repeat("x", 61) + `"`: wrongAt(impl.ErrMany, 2), `"a`: wrongAt(impl.ErrText, 2), "1 + " + name13: wrongAt(impl.ErrText, 4), "." + name13: wrongAt(impl.ErrText, 1), "$" + name13: wrongAt(impl.ErrText, 0),
		strings.Repeat(" ", 4001): wrongAt(impl.ErrMany, 0), strings.Repeat("(", 4001): wrongAt(impl.ErrMany, 0), strings.Repeat(" ", 4000): wrongAt(impl.ErrText, 4000), strings.Repeat(" ", 3999) + ".": ".", "." + strings.Repeat("\n", 3999): ".", strings.Repeat("\xff", 100000): wrongAt(impl.ErrMany, 0),
		many: wrongAt(impl.ErrText, 2), many + "1": wrongAt(impl.ErrMany, 600), strings.Repeat("(", 300): wrongAt(impl.ErrDeep, 30), strings.Repeat("(", 301): wrongAt(impl.ErrMany, 300), strings.Repeat("(", 100) + "#": wrongAt(impl.ErrText, 100),
		"\x00": wrongAt(impl.ErrText, 0), "é": wrongAt(impl.ErrText, 0),
	}
	for text, want := range cases {
		checkParsed(t, text, want)
	}
}

// holders are the terms that hold another: what stands ahead of it, and behind.
var holders = [][2]string{
	{"(", ")"}, {"(1|", ")"}, {"(1,", ")"}, {"(1+", ")"}, {"(1 as $x|", ")"}, {"(", " as $x|1)"}, {"(", ")[]"}, {"(", ")?"}, {"[", "]"}, {"[1,", "]"}, {"{a:", "}"}, {"{a:1,b:", "}"}, {"{a:", ",b:1}"}, {"f(", ")"}, {"f(1|", ")"}, {"try ", ""}, {"try (", ")"},
	{"if ", " then 1 else 1 end"}, {"if 1 then ", " else 1 end"}, {"if 1 then 1 else ", " end"}, {"if 1 then 1 elif ", " then 1 else 1 end"}, {"if 1 then 1 elif 1 then ", " else 1 end"},
	{"reduce ", " as $x (1;1)"}, {"reduce 1 as $x (", ";1)"}, {"reduce 1 as $x (1;", ")"},
}

// fullNests are texts with 30 terms that have not ended, with each holder in
// them; where it has a term ahead of what it holds, that is one of 30, too.
func fullNests(holder string) []string {
	nest := strings.Count(holder, "try (") + 1
	most := 29 / nest
	list := []string{strings.Repeat(holder, most) + strings.Repeat("(", 30-most*nest)}
	if !strings.Contains(holder, "1") {
		list = append(list, strings.Repeat(holder, 30/nest))
	}
	return list
}

func TestParseNest(t *testing.T) {
	starts := strings.Fields(`. .. .a 1 "s" $x null false true ( [ { if reduce try f f(1) [] {} .if "if" ")" $then`)
	others := strings.Fields(`) } | , : ; + - * / // % == != < <= > >= ? then elif else end as and or`)
	for _, holder := range holders {
		for _, ahead := range fullNests(holder[0]) {
			place := int64(len(ahead))
			for _, start := range starts {
				checkParsed(t, ahead+start, wrongAt(impl.ErrDeep, place))
				checkParsed(t, ahead+" "+start+" )", wrongAt(impl.ErrDeep, place+1))
				checkParsed(t, ahead+start+" #", wrongAt(impl.ErrText, place+int64(len(start))+1))
			}
			for _, other := range others {
				checkParsed(t, ahead+other, wrongAt(impl.ErrText, place))
				checkParsed(t, ahead+" "+other+" .", wrongAt(impl.ErrText, place+1))
			}
			checkParsed(t, ahead, wrongAt(impl.ErrText, place))
			checkParsed(t, ahead+" ", wrongAt(impl.ErrText, place+1))
		}
		for _, n := range []int{1, 2, 3, 13, 14, 15, 16, 27, 28, 29, 30, 31, 40} {
			text := strings.Repeat(holder[0], n) + "." + strings.Repeat(holder[1], n)
			checkParse(t, text)
			checkParse(t, text+")")
			checkParse(t, "1,"+text+",1 1")
			checkParse(t, strings.Repeat(holder[0], n)+"(1)"+strings.Repeat(holder[1], n))
		}
	}
	// One within 29 others is not too deep, whatever it is.
	for _, one := range []string{".", "..", ".a", "1", `"s"`, "$x", "null", "[]", "{}", "f", ".[.]", ".a.b?", "1+2*3", "1,2"} {
		for n := range 30 {
			checkParsed(t, strings.Repeat("(", n)+one+strings.Repeat(")", n), parsed(modelParse(one)))
		}
		for n := 30; n < 35; n++ {
			checkParsed(t, strings.Repeat("(", n)+one+strings.Repeat(")", n), wrongAt(impl.ErrDeep, 30))
		}
	}
	// Terms that have ended are about nothing more.
	ended := strings.Repeat("(", 29) + "." + strings.Repeat(")", 29)
	checkParsed(t, ended+","+ended, "(. , .)")
	checkParsed(t, strings.Repeat(ended+",", 4)+"1", "((((. , .) , .) , .) , 1)")
	checkParsed(t, ended+"["+ended+"]", ".[.]")
	checkParsed(t, strings.Repeat("(", 28)+"(.)+(.)"+strings.Repeat(")", 28), "(. + .)")
	checkParsed(t, "{a:"+strings.Repeat("(", 28)+"1"+strings.Repeat(")", 28)+",b:"+strings.Repeat("(", 28)+"2"+strings.Repeat(")", 28)+"}", `{"a":1,"b":2}`)
}

// A bracket behind a term is not within it: only the tree grows deep.
func TestParseBracketsAreNoNest(t *testing.T) {
	for n := 1; n < 99; n++ {
		text := strings.Repeat(".[", n) + "." + strings.Repeat("]", n)
		want := strings.Repeat(".[", n) + "." + strings.Repeat("]", n)
		if n >= 30 {
			want = wrongAt(impl.ErrDeep, 0)
		}
		checkParsed(t, text, want)
		checkParsed(t, text+")", wrongAt(impl.ErrText, int64(len(text))))
		checkParsed(t, text[:len(text)-1], wrongAt(impl.ErrText, int64(len(text)-1)))
	}
}

// Once all is read: a token that is left, and then the fault of the tree, At 0.
func TestParseTreeFaults(t *testing.T) {
	chains := map[string]string{",": "1,", "|": "1|", "//": "1//", "+": "1+", "*": "1*", "and": "1 and ", "or": "1 or "}
	for name, one := range chains {
		for n := 25; n < 35; n++ {
			text := strings.Repeat(one, n-1) + "1"
			checkParse(t, text)
			if got, deep := impl.ParseProgram(text), n > 30; deep != (got.Code == impl.ErrDeep) || deep == (got.Code == 0) || got.At != 0 {
				t.Errorf("%d with %s: %v", n, name, got)
			}
		}
		long := strings.Repeat(one, 99) + "1"
		checkParsed(t, long, wrongAt(impl.ErrDeep, 0))
		checkParsed(t, long+" 2", wrongAt(impl.ErrText, int64(len(long))+1))
		checkParsed(t, one+long, wrongAt(impl.ErrMany, 0))
		checkParsed(t, one+long+")", wrongAt(impl.ErrText, int64(len(one+long))))
	}
	for n := 25; n < 35; n++ {
		want := "." + strings.Repeat("[]", n)
		if n >= 30 {
			want = wrongAt(impl.ErrDeep, 0)
		}
		checkParsed(t, "."+strings.Repeat("[]", n), want)
		checkParse(t, strings.Repeat(".a", n))
		checkParse(t, "."+strings.Repeat("?", n))
		checkParse(t, "if 1 then 2"+strings.Repeat(" elif 3 then 4", n)+" else 5 end")
		checkParse(t, "{"+strings.Repeat("a:1,", n)+"b:2}")
	}
	// Elifs are within no more terms, however many there are.
	checkParsed(t, "if 1 then 2"+strings.Repeat(" elif 3 then 4", 29)+" else 5 end", wrongAt(impl.ErrDeep, 0))
	if got := impl.ParseProgram("if 1 then 2" + strings.Repeat(" elif 3 then 4", 28) + " else 5 end"); got.Code != 0 || len(got.Tree) != 29*3+1 {
		t.Error(short(got))
	}
}

// wideText has that many nodes, an odd number, and is not deep.
func wideText(nodes int) string {
	var groups []string
	for left := (nodes + 1) / 2; left > 0; left -= 10 {
		groups = append(groups, "("+strings.Repeat("1,", min(left, 10)-1)+"1)")
	}
	return strings.Join(groups, ",")
}

func TestParseMostNodes(t *testing.T) {
	for nodes := 191; nodes < 215; nodes++ {
		text := wideText(nodes)
		if nodes%2 == 0 {
			text = wideText(nodes-1) + "?"
		}
		got := impl.ParseProgram(text)
		if nodes > 200 {
			if !reflect.DeepEqual(got, impl.ProgramResult{Code: impl.ErrMany}) {
				t.Errorf("%d nodes: %v", nodes, short(got))
			}
		} else if got.Code != 0 || got.At != 0 || len(got.Tree) != nodes {
			t.Errorf("%d nodes: %d of %v", nodes, len(got.Tree), short(got))
		}
		checkParse(t, text)
	}
	// Too many comes ahead of too deep.
	checkParsed(t, strings.Repeat("1,", 100)+"1", wrongAt(impl.ErrMany, 0))
}

// spaced has the words of a text, each with a blank behind it.
func spaced(words string) []string {
	list := strings.Fields(words)
	for i := range list {
		list[i] += " "
	}
	return list
}

func TestShortTreesAgainstModel(t *testing.T) {
	cases := []struct {
		before, words string
		n             int
	}{
		{"", `. .. .a 1 "s" $x null ( ) [ ] { } f : , ; | // or and == < + - * ? if then elif else end as reduce try`, 3},
		{"", ". | as $x try ( )", 5},
		{"try . ", ". | as $x try ( )", 4},
		{"( . as $x ", ". | as $x try ( )", 4},
		{"", "1 + * == , // or", 5},
		{"", ". [ ] ? .a try", 5},
		{"try . ", ". [ ] ? .a try", 4},
		{"{ ", `} f "b" : , 1 if`, 5},
		{"{ f : ", "} f : , 1 | //", 5},
		{"if ", ". then elif else end |", 5},
		{"if 1 then 2 ", "1 then elif else end", 6},
		{"reduce . as $x ", "( ; ) . as $x", 6},
		{"reduce ", "1 as $x ( ; ) ?", 5},
		{"f ", "f ( ) [ ] 1 ,", 5},
		{"1 as ", "$x | 2 as , try", 5},
		{strings.Repeat("( ", 28), "( ) 1 [ ] try then .a", 4},
		{strings.Repeat("try ", 28), "try ( ) 1 [ ] as $x |", 4},
	}
	for _, c := range cases {
		t.Run(c.before+c.words, func(t *testing.T) {
			t.Parallel()
			shortTexts(c.before, spaced(c.words), c.n, func(text string) { checkParse(t, text) })
		})
	}
}

// The programs have all that may stand in one.
func TestChangedTreesAgainstModel(t *testing.T) {
	texts := []string{
		".a|.b+1//$x 12",
		"reduce .[] as $x (0; . + $x) // null",
		"if .==1 then \"y\" elif .!=2 then [] else{}end",
		"{a:1,\"b\":.c[0]?}|f(..)<=try .d",
		". as $x|[1,2*3%4,$x[]]and true or false-1",
	}
	for _, text := range texts {
		t.Run(text, func(t *testing.T) {
			t.Parallel()
			changedTexts(text, func(text string) { checkParse(t, text) })
		})
	}
}

// Each token of a program is left out, doubled, and changed for every other one.
func TestChangedTokensAgainstModel(t *testing.T) {
	others := strings.Fields(`. .. .a 7 "s" $x null false true ( ) [ ] { } f : , ; | // or and == != < <= > >= + - * / % ? if then elif else end as reduce try`)
	texts := []string{
		"reduce .a [ ] as $x ( 0 ; . + $x ) | if . == 1 then [ 2 , 3 ] elif f ( 4 ) then { a : 5 , \"b\" : 6 // 7 } else try .c ? end",
		". as $y | 1 - 2 * 3 < 4 and $y or ( null , .. ) // [ ] [ 0 ] | { } as $z | $z",
	}
	for _, text := range texts {
		words := strings.Fields(text)
		for at := range len(words) + 1 {
			for _, other := range others {
				checkParse(t, strings.Join(slices.Insert(slices.Clone(words), at, other), " "))
				if at < len(words) {
					checkParse(t, strings.Join(slices.Concat(words[:at], []string{other}, words[at+1:]), " "))
				}
			}
			checkParse(t, strings.Join(words[:at], " "))
			checkParse(t, strings.Join(words[at:], " "))
			if at < len(words) {
				checkParse(t, strings.Join(slices.Delete(slices.Clone(words), at, at+1), " "))
			}
		}
	}
}
