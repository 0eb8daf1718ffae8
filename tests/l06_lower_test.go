package tests

import (
	"math"
	"reflect"
	"strconv"
	"strings"
	"testing"

	"loop.example/g00166/impl"
)

// lowered is an answer as a text: its twig, or "!" and its code, with the Value
// behind it; its nodes must be those of the twig, in order.
func lowered(r impl.CoreResult) string {
	if r.Code != 0 {
		return code(r.Code) + " " + strconv.FormatInt(r.Value, 10) + strings.Repeat(" and a core", min(1, len(r.Core)))
	}
	if r.Value != 0 || modelCoreFault(r.Core) != 0 {
		return "a core with the fault " + code(modelCoreFault(r.Core)) + " and the Value " + strconv.FormatInt(r.Value, 10)
	}
	return twigOf(r.Core).String()
}

func checkLowered(t *testing.T, text, want string) {
	t.Helper()
	if got := lowered(impl.LowerTree(treeOf(text))); got != want {
		t.Errorf("%s: %s, want %s", text, got, want)
	}
	if got := modelLowered(treeOf(text)); got != want {
		t.Errorf("%s: the model has %s, want %s", text, got, want)
	}
}

func modelLowered(tree []impl.Node) string {
	if scope := modelScopeFault(tree); scope.Code != 0 {
		return code(scope.Code) + " " + strconv.FormatInt(scope.Value, 10)
	}
	return modelLower(tree)
}

func TestLowerTree(t *testing.T) {
	cases := map[string]string{
		".": "self", "0": "const=0", "7": "const=7", "1000000000000000": "const=1000000000000000", `""`: `const=""`, `"a\"\\"`: `const="a\"\\"`, "null": "const=null", "false": "const=false", "true": "const=true", "[]": "const=[]", "{}": "const={}",
		"..": "each(do:7)", "..[]": "each(each(do:7))", "..|..": "pipe(each(do:7) each(do:7))", "try ..": "try(each(do:7))", "[..]": "list(each(do:7))",
		".|1": "pipe(self const=1)", ".,1": "comma(self const=1)", ".//1": "alt(self const=1)", ".[1]": "at(self const=1)", ".a": `at(self const="a")`, ".[]": "each(self)", "try .": "try(self)", ".?": "try(self)", "[.]": "list(self)", "[[]]": "list(const=[])",
		".+1": "bin:1(self const=1)", ".-1": "bin:2(self const=1)", ".*1": "bin:3(self const=1)", ".==1": "bin:4(self const=1)", ".!=1": "bin:5(self const=1)", ".<1": "bin:6(self const=1)", ".<=1": "bin:7(self const=1)", ".>1": "bin:8(self const=1)", ".>=1": "bin:9(self const=1)", "./1": "bin:10(self const=1)", ".%1": "bin:11(self const=1)",
		"{a:1}": `member="a"(const={} const=1)`, `{"":.}`: `member=""(const={} self)`, "{a:1,b:{c:{}}}": `member="b"(member="a"(const={} const=1) member="c"(const={} const={}))`, "{a:1,a:2}": `member="a"(member="a"(const={} const=1) const=2)`,
		"if . then 1 else 2 end": "if(self const=1 const=2)", "if 1 then 2 elif 3 then 4 else 5 end": "if(const=1 const=2 if(const=3 const=4 const=5))",
		"1 or 2": "if(const=1 const=true if(const=2 const=true const=false))", "1 and 2": "if(const=1 if(const=2 const=true const=false) const=false)",
		"1 or 2 or 3":        "if(if(const=1 const=true if(const=2 const=true const=false)) const=true if(const=3 const=true const=false))",
		"1 and 2 and 3":      "if(if(const=1 if(const=2 const=true const=false) const=false) if(const=3 const=true const=false) const=false)",
		"1 or 2 and 3":       "if(const=1 const=true if(if(const=2 if(const=3 const=true const=false) const=false) const=true const=false))",
		"1 and (2 or 3)":     "if(const=1 if(if(const=2 const=true if(const=3 const=true const=false)) const=true const=false) const=false)",
		"not":                "if(self const=false const=true)",
		"not or not":         "if(if(self const=false const=true) const=true if(if(self const=false const=true) const=true const=false))",
		"not and not":        "if(if(self const=false const=true) if(if(self const=false const=true) const=true const=false) const=false)",
		".a | not":           `pipe(at(self const="a") if(self const=false const=true))`,
		"empty":              "empty",
		"length":             "do:1",
		"keys":               "do:2",
		"type":               "do:3",
		"sort":               "do:4",
		"add":                "do:5",
		"error":              "do:8",
		"map(.)":             "list(pipe(each(self) self))",
		"map(. + 1)":         "list(pipe(each(self) bin:1(self const=1)))",
		"map(map(.))":        "list(pipe(each(self) list(pipe(each(self) self))))",
		"select(.)":          "if(self self empty)",
		"select(not)":        "if(if(self const=false const=true) self empty)",
		"select(select(1))":  "if(if(const=1 self empty) self empty)",
		"range(3)":           "pipe(const=3 each(do:6))",
		"range(range(3))":    "pipe(pipe(const=3 each(do:6)) each(do:6))",
		"range(.,1)":         "pipe(comma(self const=1) each(do:6))",
		"map(select(. > 1))": "list(pipe(each(self) if(bin:8(self const=1) self empty)))",
		"map(..)":            "list(pipe(each(self) each(do:7)))",
		"select(..)":         "if(each(do:7) self empty)",
		"range(..)":          "pipe(each(do:7) each(do:6))",
		".. or ..":           "if(each(do:7) const=true if(each(do:7) const=true const=false))",
		"range(select(map(not) and (.. or empty)))": "pipe(if(if(list(pipe(each(self) if(self const=false const=true))) if(if(each(do:7) const=true if(empty const=true const=false)) const=true const=false) const=false) self empty) each(do:6))",
		"map(length) | add // error":                "pipe(list(pipe(each(self) do:1)) alt(do:5 do:8))",
	}
	met := map[int64]int{}
	for text, want := range cases {
		checkLowered(t, text, want)
		for _, c := range impl.LowerTree(treeOf(text)).Core {
			met[c.Op]++
		}
	}
	if len(met) != 14 {
		t.Error(met)
	}
}

// The slot of a variable is how many there are about the node that binds it.
func TestLowerSlots(t *testing.T) {
	cases := map[string]string{
		". as $x | 1": "as:0(self const=1)", ". as $x | $x": "as:0(self var:0)", "reduce . as $x (1;2)": "reduce:0(self const=1 const=2)", "reduce . as $x (1;$x)": "reduce:0(self const=1 var:0)",
		". as $x | . as $y | 1": "as:0(self as:1(self const=1))", ". as $x | . as $y | $x": "as:0(self as:1(self var:0))", ". as $x | . as $y | $y": "as:0(self as:1(self var:1))", ". as $x | . as $y | . as $z | $x , $y , $z": "as:0(self as:1(self as:2(self comma(comma(var:0 var:1) var:2))))",
		// The same name: the innermost one is meant, and not in its own A and B.
		". as $x | . as $x | $x": "as:0(self as:1(self var:1))", ". as $x | $x as $x | $x": "as:0(self as:1(var:0 var:1))", ". as $x | (. as $x | $x) , $x": "as:0(self comma(as:1(self var:1) var:0))", ". as $x | $x , (. as $x | $x) , $x": "as:0(self comma(comma(var:0 as:1(self var:1)) var:0))", ". as $x | $x as $x | $x as $x | $x": "as:0(self as:1(var:0 as:2(var:1 var:2)))", ". as $x | . as $y | . as $x | $x , $y": "as:0(self as:1(self as:2(self comma(var:2 var:1))))",
		"reduce . as $x (1; reduce $x as $x ($x; $x))": "reduce:0(self const=1 reduce:1(var:0 var:0 var:1))", ". as $x | reduce $x as $x ($x; $x)": "as:0(self reduce:1(var:0 var:0 var:1))", "reduce . as $x (1; $x as $x | $x)": "reduce:0(self const=1 as:1(var:0 var:1))",
		// Beside one another: each begins anew.
		"(. as $x | $x) , (. as $y | $y)": "comma(as:0(self var:0) as:0(self var:0))", "(. as $x | $x) | . as $y | $y": "pipe(as:0(self var:0) as:0(self var:0))", "[. as $x | $x] + [. as $x | . as $y | $y]": "bin:1(list(as:0(self var:0)) list(as:0(self as:1(self var:1))))", ". as $x | (. as $y | $y) , (. as $z | $z , $x)": "as:0(self comma(as:1(self var:1) as:1(self comma(var:1 var:0))))",
		// In A and B of a node nothing of its own is about.
		"(. as $x | $x) as $y | $y": "as:0(as:0(self var:0) var:0)", "(. as $x | . as $y | $x) as $z | $z": "as:0(as:0(self as:1(self var:0)) var:0)", "reduce (. as $x | $x) as $y (. as $z | $z; . as $w | $w , $y)": "reduce:0(as:0(self var:0) as:0(self var:0) as:1(self comma(var:1 var:0)))", "reduce reduce . as $x (1;$x) as $y (reduce . as $x (2;$x); reduce . as $x ($y;$x+$y))": "reduce:0(reduce:0(self const=1 var:0) reduce:0(self const=2 var:0) reduce:1(self var:0 bin:1(var:1 var:0)))",
		". as $x | (. as $y | $y) as $z | $z": "as:0(self as:1(as:1(self var:1) var:1))", ". as $x | reduce (. as $y | $y) as $z (. as $y | $y; $z)": "as:0(self reduce:1(as:1(self var:1) as:1(self var:1) var:1))",
		// Through nodes that bind nothing, and those that become several.
		". as $x | map($x)": "as:0(self list(pipe(each(self) var:0)))", "map(. as $x | $x)": "list(pipe(each(self) as:0(self var:0)))", ". as $x | select($x) , range($x)": "as:0(self comma(if(var:0 self empty) pipe(var:0 each(do:6))))", ". as $x | $x or (. as $y | $y and $x)": "as:0(self if(var:0 const=true if(as:1(self if(var:1 if(var:0 const=true const=false) const=false)) const=true const=false)))", ". as $x | {a:$x,b:(. as $y | $y)}": `as:0(self member="b"(member="a"(const={} var:0) as:1(self var:1)))`, ". as $x | if $x then . as $y | $y else . as $y | $x end": "as:0(self if(var:0 as:1(self var:1) as:1(self var:0)))", ". as $x | $x[$x]?": "as:0(self try(at(var:0 var:0)))",
	}
	for text, want := range cases {
		checkLowered(t, text, want)
	}
	// One within the other, as many as there can be.
	text, want := "0", "const=0"
	for depth := 29; depth > 0; depth-- {
		slot := strconv.Itoa(depth - 1)
		text, want = "0 as $v"+slot+" | "+text, "as:"+slot+"(const=0 "+want+")"
	}
	checkLowered(t, text, want)
	for slot := range 29 {
		last := strconv.Itoa(slot)
		checkLowered(t, strings.TrimSuffix(text, "0")+"$v"+last, strings.Replace(want, "const=0)", "var:"+last+")", 1))
	}
	if r := impl.SlotsOf(impl.LowerTree(treeOf(text)).Core); r != (impl.IntResult{Value: 29}) {
		t.Error(r)
	}
}

// The nodes, one by one: those that it names are ahead, all of A first.
func TestLowerNodes(t *testing.T) {
	cases := map[string]string{
		"select(.a) | not": "0 1 0 0 0 0 -\n1 2 0 0 0 0 \"a\"\n2 7 0 1 0 0 -\n3 1 0 0 0 0 -\n4 17 0 0 0 0 -\n5 12 2 3 4 0 -\n6 1 0 0 0 0 -\n7 2 0 0 0 0 false\n8 2 0 0 0 0 true\n9 12 6 7 8 0 -\n10 3 5 9 0 0 -\n",
		"1 or 2":           "0 2 0 0 0 0 1\n1 2 0 0 0 0 true\n2 2 0 0 0 0 2\n3 2 0 0 0 0 true\n4 2 0 0 0 0 false\n5 12 2 3 4 0 -\n6 12 0 1 5 0 -\n",
		"1 and 2":          "0 2 0 0 0 0 1\n1 2 0 0 0 0 2\n2 2 0 0 0 0 true\n3 2 0 0 0 0 false\n4 12 1 2 3 0 -\n5 2 0 0 0 0 false\n6 12 0 4 5 0 -\n",
		"map(1)":           "0 1 0 0 0 0 -\n1 8 0 0 0 0 -\n2 2 0 0 0 0 1\n3 3 1 2 0 0 -\n4 10 3 0 0 0 -\n",
		"range(1)":         "0 2 0 0 0 0 1\n1 16 0 0 0 6 -\n2 8 1 0 0 0 -\n3 3 0 2 0 0 -\n",
		"..":               "0 16 0 0 0 7 -\n1 8 0 0 0 0 -\n",
		". as $x | reduce $x as $y ({b:1}; $y - $x)": "0 1 0 0 0 0 -\n1 15 0 0 0 0 -\n2 2 0 0 0 0 {}\n3 2 0 0 0 0 1\n4 11 2 3 0 0 \"b\"\n5 15 0 0 0 1 -\n6 15 0 0 0 0 -\n7 6 5 6 0 2 -\n8 13 1 4 7 1 -\n9 14 0 8 0 0 -\n",
	}
	for text, want := range cases {
		if got := impl.CoreText(impl.LowerTree(treeOf(text)).Core); got != (impl.TextResult{Text: want}) {
			t.Errorf("%s: %v, want %s", text, got, want)
		}
	}
}

// checkLower holds the core of a tree against the model, and P7.
func checkLower(t *testing.T, b *branch) {
	t.Helper()
	tree := b.nodes()
	r := impl.LowerTree(tree)
	if got, want := lowered(r), modelLowered(tree); got != want {
		t.Fatalf("%s: %s, want %s", short(b), short(got), short(want))
	}
	if impl.ScopeFault(tree).Code == 0 && impl.CoreFault(r.Core) != 0 {
		t.Fatalf("%s: the core has the fault %d", short(b), impl.CoreFault(r.Core))
	}
}

func TestLowerTreeAgainstModel(t *testing.T) {
	x, y := br(impl.NodeVar).named("x"), br(impl.NodeVar).named("y")
	call := func(name string) *branch { return br(impl.NodeCall).named(name) }
	callOne := func(name string) *branch { return br(impl.NodeCallOne).named(name) }
	sets := map[string]struct {
		heads []*branch
		size  int
	}{
		"each kind":  {heads(), 4},
		"sugar":      {[]*branch{br(impl.NodeOr), br(impl.NodeAnd), call("not"), call("add"), callOne("map"), callOne("select"), callOne("range"), br(impl.NodeDeep)}, 6},
		"calls":      {[]*branch{call("not"), call("empty"), call("length"), call("keys"), call("type"), call("sort"), call("add"), call("error"), call("map"), callOne("map"), callOne("add"), br(impl.NodeBare), br(impl.NodeMember).named("add")}, 4},
		"as":         {[]*branch{x, y, br(impl.NodeAs).named("x"), br(impl.NodeAs).named("y"), br(impl.NodeSelf), br(impl.NodeComma)}, 7},
		"reduce":     {[]*branch{x, y, br(impl.NodeReduce).named("x"), br(impl.NodeReduce).named("y"), br(impl.NodeSelf)}, 7},
		"as, reduce": {[]*branch{x, y, br(impl.NodeReduce).named("x"), br(impl.NodeAs).named("y"), br(impl.NodeSelf), callOne("map")}, 6},
	}
	for name, set := range sets {
		t.Run(name, func(t *testing.T) {
			t.Parallel()
			for size := 1; size <= set.size; size++ {
				for _, tree := range smallTrees(set.heads, size) {
					checkLower(t, tree)
				}
			}
		})
	}
}

// As deep as a tree may be, at each place that a node has.
func TestLowerDeepTrees(t *testing.T) {
	for _, head := range append(heads(), br(impl.NodeCallOne).named("select"), br(impl.NodeCallOne).named("range"), br(impl.NodeReduce).named("y")) {
		for _, depth := range []int{1, 2, 3, 15, 29, 30, 31} {
			for _, tree := range grown(head, depth) {
				checkLower(t, tree)
			}
		}
	}
	deepest := 0
	for _, head := range heads() {
		for _, tree := range grown(head, 30) {
			if r := impl.LowerTree(tree.nodes()); r.Code == 0 {
				deepest = max(deepest, twigOf(r.Core).depth())
			}
		}
	}
	if deepest != 60 {
		t.Error(deepest)
	}
}

// wideTree has that many leaves, joined by nodes of one head as evenly as can be.
func wideTree(head *branch, leaf *branch, leaves int) *branch {
	if leaves == 1 {
		return leaf
	}
	half := leaves / 2
	return &branch{head.op, head.num, head.text, []*branch{wideTree(head, leaf, half), wideTree(head, leaf, leaves-half)}}
}

// A node becomes at most five: 200 of them stay below 900, and as many as there
// can be are told.
func TestLowerMostNodes(t *testing.T) {
	not, map1 := br(impl.NodeCall).named("not"), br(impl.NodeCallOne).named("map")
	for _, head := range []*branch{br(impl.NodeOr), br(impl.NodeAnd)} {
		for _, leaf := range []*branch{not, br(impl.NodeSelf), br(impl.NodeDeep)} {
			for leaves := 90; leaves <= 102; leaves++ {
				checkLower(t, wideTree(head, leaf, leaves))
			}
		}
		tree := br(impl.NodeCallOne, wideTree(head, not, 100)).named(map1.text)
		checkLower(t, tree)
		r := impl.LowerTree(tree.nodes())
		if nodes := len(tree.nodes()); nodes != 200 || r.Code != 0 || len(r.Core) != 899 || impl.CoreFault(r.Core) != 0 {
			t.Error(nodes, r.Code, len(r.Core))
		}
		if r := impl.LowerTree(br(impl.NodeTry, tree).nodes()); !reflect.DeepEqual(r, impl.CoreResult{Code: impl.ErrMany}) {
			t.Error(short(r))
		}
	}
}

// The code of ScopeFault, and its Value.
func TestLowerCodes(t *testing.T) {
	for _, c := range faultyTrees() {
		if r := impl.LowerTree(c.tree); !reflect.DeepEqual(r, impl.CoreResult{Code: c.code}) {
			t.Errorf("%s: %s, want %d", short(c.tree), short(r), c.code)
		}
	}
	unknown := map[string]int64{"$x": 0, "1,$x": 1, "f": 0, "f(1)": 1, "map": 0, "length(.)": 1, "(. as $x | $x) | $x": 3, "reduce . as $x ($x;1)": 1, "$x as $x | $x": 0, "map($x)": 0, "not or $y": 1, "{a:f,b:g}": 1}
	for text, place := range unknown {
		if r := impl.LowerTree(treeOf(text)); !reflect.DeepEqual(r, impl.CoreResult{Code: impl.ErrNone, Value: place}) {
			t.Errorf("%s: %s, want %d", text, short(r), place)
		}
	}
}

// P7: the core of what is read has no fault, if its names are known.
func TestCoreOfReadPrograms(t *testing.T) {
	known := 0
	check := func(text string) {
		read := impl.ParseProgram(text)
		if read.Code != 0 {
			return
		}
		r := impl.LowerTree(read.Tree)
		scope := impl.ScopeFault(read.Tree)
		if scope.Code == 0 {
			known++
		}
		if r.Code != scope.Code || r.Value != scope.Value || scope.Code == 0 && impl.CoreFault(r.Core) != 0 || scope.Code != 0 && r.Core != nil {
			t.Errorf("%s: %s, scope %v", text, short(r), scope)
		}
	}
	shortTexts("", spaced(". .. 1 ( ) [ ] , | as $x $y not or try ?"), 4, check)
	shortTexts(". as $x | ", spaced(". $x $y ( ) as | , map add"), 5, check)
	shortTexts("reduce . as $x ( ", spaced(". $x ; ) | as , not"), 5, check)
	if known < 500 {
		t.Error(known)
	}
}

func TestDeepOf(t *testing.T) {
	cases := map[string]string{
		"null": "[null]", "false": "[false]", "7": "[7]", `"a"`: `["a"]`, "[]": "[[]]", "{}": "[{}]",
		"[null]": "[[null],null]", "[1,2]": "[[1,2],1,2]", "[[1,2],3]": "[[[1,2],3],[1,2],1,2,3]", "[1,[2,3]]": "[[1,[2,3]],1,[2,3],2,3]", "[[[]]]": "[[[[]]],[[]],[]]", "[[],[]]": "[[[],[]],[],[]]",
		`{"a":1}`: `[{"a":1},1]`, `{"":[]}`: `[{"":[]},[]]`, `{"b":1,"a":2}`: `[{"a":2,"b":1},2,1]`, `{"a":{"b":{"c":1}},"d":[2]}`: `[{"a":{"b":{"c":1}},"d":[2]},{"b":{"c":1}},{"c":1},1,[2],2]`, `[{"a":[1]},{"a":"x"}]`: `[[{"a":[1]},{"a":"x"}],{"a":[1]},[1],1,{"a":"x"},"x"]`,
	}
	for text, want := range cases {
		checkTold(t, text, impl.DeepOf(val(text)), want)
		checkTold(t, text, impl.DoNative(impl.DoDeep, val(text)), want)
	}
	for _, c := range faulty() {
		checkAnswer(t, impl.DeepOf(c.v), failing(c.code), c.v)
	}
	// At 200 cells it is a value, beyond them it is none; too deep it is only
	// where it has too many.
	bounds := []struct {
		v     cells
		cells int
	}{
		{arr(repeat(99, null())...), 200}, {arr(append(repeat(95, null()), arr(null(), null()))...), 200}, {arr(append(repeat(97, null()), arr(null()))...), 201}, {arr(repeat(100, null())...), 202}, {arr(repeat(199, null())...), 400},
		{nested(18), 172}, {nested(19), 191}, {nested(20), 211}, {obj(member("k", nested(18))), 191}, {obj(member("k", nested(19))), 211}, {objectOf(0, 99), 200}, {objectOf(0, 100), 202},
	}
	for _, c := range bounds {
		want := failing(impl.ErrMany)
		if c.cells <= 200 {
			want = modelDeepOf(sampleOf(c.v))
		}
		got := impl.DeepOf(c.v)
		if checkAnswer(t, got, want, c.v); got.Code == 0 && len(got.Value) != c.cells {
			t.Errorf("%s: %d cells, want %d", short(c.v), len(got.Value), c.cells)
		}
	}
}

// P7: a value and all that is in it are as many as its cells; each is the part
// at its place.
func checkDeep(t *testing.T, s sample) {
	t.Helper()
	got := impl.DeepOf(s.v)
	checkAnswer(t, got, modelDeepOf(s), s.v)
	if got.Code != 0 {
		return
	}
	parts := impl.EachOf(got.Value).Parts
	if got.Value[0].N != int64(len(s.v)) || len(parts) != len(s.v) {
		t.Fatalf("%s: %d of %d", short(s.v), got.Value[0].N, len(s.v))
	}
	for at, part := range parts {
		checkAnswer(t, impl.ValueResult{Value: part}, impl.PartAt(s.v, int64(at)), s.v, at)
	}
}

func TestDeepOfAgainstModel(t *testing.T) {
	for _, s := range samplesOf(append(opPool(), faults()...)) {
		checkDeep(t, s)
	}
	for _, s := range samplesOf(shortLists(smallAlphabet(), 3)) {
		checkDeep(t, s)
	}
}

func TestDoNative(t *testing.T) {
	cases := []struct {
		do   int64
		v    string
		want string
	}{
		{impl.DoLength, "null", "0"}, {impl.DoLength, "-7", "7"}, {impl.DoLength, `"abc"`, "3"}, {impl.DoLength, "[1,[2]]", "2"}, {impl.DoLength, `{"a":1}`, "1"}, {impl.DoLength, "true", errKind}, {impl.DoLength, "false", errKind},
		{impl.DoKeys, `{"b":1,"a":2}`, `["a","b"]`}, {impl.DoKeys, "[5,6]", "[0,1]"}, {impl.DoKeys, "[]", "[]"}, {impl.DoKeys, "null", errKind}, {impl.DoKeys, `"a"`, errKind},
		{impl.DoType, "null", `"null"`}, {impl.DoType, "true", `"boolean"`}, {impl.DoType, "false", `"boolean"`}, {impl.DoType, "1", `"number"`}, {impl.DoType, `""`, `"string"`}, {impl.DoType, "[]", `"array"`}, {impl.DoType, "{}", `"object"`},
		{impl.DoSort, "[3,1,2]", "[1,2,3]"}, {impl.DoSort, `["a",null,[],1]`, `[null,1,"a",[]]`}, {impl.DoSort, `{"a":1}`, errKind}, {impl.DoSort, "null", errKind},
		{impl.DoAdd, "[3,1,2]", "6"}, {impl.DoAdd, "[]", "null"}, {impl.DoAdd, `{"a":"x","b":"y"}`, `"xy"`}, {impl.DoAdd, `[1,"a"]`, errKind}, {impl.DoAdd, "1", errKind}, {impl.DoAdd, "[1000000000000000,1]", errRange},
		{impl.DoRange, "3", "[0,1,2]"}, {impl.DoRange, "1", "[0]"}, {impl.DoRange, "0", "[]"}, {impl.DoRange, "-1", "[]"}, {impl.DoRange, "-1000000000000000", "[]"}, {impl.DoRange, "200", errRange}, {impl.DoRange, "1000000000000000", errRange}, {impl.DoRange, "null", errKind}, {impl.DoRange, "true", errKind}, {impl.DoRange, `"3"`, errKind}, {impl.DoRange, "[3]", errKind}, {impl.DoRange, "{}", errKind},
		{impl.DoDeep, "[1,[2]]", "[[1,[2]],1,[2],2]"}, {impl.DoDeep, "null", "[null]"},
		{impl.DoError, "null", errForm}, {impl.DoError, "false", errForm}, {impl.DoError, "1", errForm}, {impl.DoError, `"a"`, errForm}, {impl.DoError, "[]", errForm}, {impl.DoError, `{"a":1}`, errForm},
		{0, "null", errRange}, {9, "null", errRange}, {-1, "[1]", errRange}, {10, `"a"`, errRange}, {math.MinInt64, "{}", errRange}, {math.MaxInt64, "3", errRange},
	}
	for _, c := range cases {
		checkTold(t, strconv.FormatInt(c.do, 10)+" of "+c.v, impl.DoNative(c.do, val(c.v)), c.want)
	}
	checkAnswer(t, impl.DoNative(impl.DoRange, num(199)), made(numbersUpTo(199)))
}

// A value with a fault comes ahead of a do that is none, and of a kind.
func TestDoNativeAgainstModel(t *testing.T) {
	dos := append([]int64{5, 6, 7, 8, 9, 10, 16}, farNumbers...)
	for _, s := range samplesOf(append(opPool(), faults()...)) {
		for _, do := range dos {
			checkAnswer(t, impl.DoNative(do, s.v), modelNative(do, s), do, s.v)
		}
	}
	for _, n := range farNumbers {
		s := sampleOf(num(n))
		for do := int64(-1); do < 10; do++ {
			checkAnswer(t, impl.DoNative(do, s.v), modelNative(do, s), do, n)
		}
	}
}
