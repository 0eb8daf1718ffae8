package tests

import (
	"maps"
	"math"
	"reflect"
	"slices"
	"strings"
	"testing"

	"loop.example/g00166/impl"
)

type node = impl.Node

func TestTreeConstants(t *testing.T) {
	got := []int64{impl.MaxNodes, impl.MaxNest, impl.NodeSelf, impl.NodeNumber, impl.NodeString, impl.NodeWord, impl.NodePipe, impl.NodeComma, impl.NodeAlt, impl.NodeOr, impl.NodeAnd, impl.NodeBin, impl.NodeAt, impl.NodeEach, impl.NodeTry, impl.NodeList, impl.NodeNone, impl.NodeBare, impl.NodeMember, impl.NodeIf, impl.NodeReduce, impl.NodeAs, impl.NodeVar, impl.NodeCall, impl.NodeCallOne, impl.NodeDeep}
	want := []int64{200, 30}
	for op := int64(1); op <= 24; op++ {
		want = append(want, op)
	}
	if !slices.Equal(got, want) {
		t.Error(got)
	}
}

// oneOfEach has for each op a small tree whose last node has it, and its text.
func oneOfEach() map[string]*branch {
	self, one, bare := br(impl.NodeSelf), br(impl.NodeNumber).numbered(1), br(impl.NodeBare)
	x := br(impl.NodeVar).named("x")
	trees := map[string]*branch{
		".": self, "0": br(impl.NodeNumber), "1": one, "1000000000000000": br(impl.NodeNumber).numbered(impl.MaxNumber), `""`: br(impl.NodeString), `"a"`: br(impl.NodeString).named("a"), `"\"\\/"`: br(impl.NodeString).named(`"\/`), `"if"`: br(impl.NodeString).named("if"),
		"null": br(impl.NodeWord), "false": br(impl.NodeWord).numbered(1), "true": br(impl.NodeWord).numbered(2),
		"(. | 1)": br(impl.NodePipe, self, one), "(. , 1)": br(impl.NodeComma, self, one), "(. // 1)": br(impl.NodeAlt, self, one), "(. or 1)": br(impl.NodeOr, self, one), "(. and 1)": br(impl.NodeAnd, self, one),
		".[1]": br(impl.NodeAt, self, one), ".[]": br(impl.NodeEach, self), "(try .)": br(impl.NodeTry, self), "[.]": br(impl.NodeList, self), "[]": br(impl.NodeNone), "{}": bare,
		`{"a":1}`: br(impl.NodeMember, bare, one).named("a"), `{"":.}`: br(impl.NodeMember, bare, self), `{"if":1,"\"":.}`: br(impl.NodeMember, br(impl.NodeMember, bare, one).named("if"), self).named(`"`),
		`{"a":{"b":1},"c":{}}`:       br(impl.NodeMember, br(impl.NodeMember, bare, br(impl.NodeMember, bare, one).named("b")).named("a"), bare).named("c"),
		`{"}":"}","{":"{"}`:          br(impl.NodeMember, br(impl.NodeMember, bare, br(impl.NodeString).named("}")).named("}"), br(impl.NodeString).named("{")).named("{"),
		"(if . then 1 else $x end)":  br(impl.NodeIf, self, one, x),
		"(reduce . as $x (1 ; $x))":  br(impl.NodeReduce, self, one, x).named("x"),
		"(reduce . as $if (1 ; $x))": br(impl.NodeReduce, self, one, x).named("if"),
		"(. as $x | $x)":             br(impl.NodeAs, self, x).named("x"), "(. as $null | 1)": br(impl.NodeAs, self, one).named("null"), "$x": x, "$end": br(impl.NodeVar).named("end"), "$" + name12: br(impl.NodeVar).named(name12),
		"f": br(impl.NodeCall).named("f"), "length": br(impl.NodeCall).named("length"), "f(.)": br(impl.NodeCallOne, self).named("f"), name12 + "($x)": br(impl.NodeCallOne, x).named(name12), "..": br(impl.NodeDeep),
	}
	for i, mark := range strings.Fields("+ - * == != < <= > >= / %") {
		trees["(. "+mark+" 1)"] = br(impl.NodeBin, self, one).numbered(int64(i) + 1)
	}
	return trees
}

func checkFormat(t *testing.T, tree []node, want impl.TextResult) {
	t.Helper()
	if got := impl.FormatProgram(tree); got != want {
		t.Errorf("%s: %s, want %s", short(tree), short(got), short(want))
	}
}

// Each op is told by hand, by itself and around and within others.
func TestFormatProgram(t *testing.T) {
	met := map[int64]int{}
	for want, one := range oneOfEach() {
		met[one.op]++
		if got := one.String(); got != want {
			t.Errorf("the model has %s, want %s", got, want)
		}
		checkFormat(t, one.nodes(), impl.TextResult{Text: want})
		checkFormat(t, br(impl.NodeEach, one).nodes(), impl.TextResult{Text: want + "[]"})
		checkFormat(t, br(impl.NodeTry, one).nodes(), impl.TextResult{Text: "(try " + want + ")"})
		checkFormat(t, br(impl.NodeList, one).nodes(), impl.TextResult{Text: "[" + want + "]"})
		checkFormat(t, br(impl.NodeCallOne, one).named("f").nodes(), impl.TextResult{Text: "f(" + want + ")"})
		for text, other := range oneOfEach() {
			checkFormat(t, br(impl.NodeAt, one, other).nodes(), impl.TextResult{Text: want + "[" + text + "]"})
			checkFormat(t, br(impl.NodePipe, one, other).nodes(), impl.TextResult{Text: "(" + want + " | " + text + ")"})
			checkFormat(t, br(impl.NodeBin, one, other).numbered(impl.OpLe).nodes(), impl.TextResult{Text: "(" + want + " <= " + text + ")"})
			checkFormat(t, br(impl.NodeAs, one, other).named("y").nodes(), impl.TextResult{Text: "(" + want + " as $y | " + text + ")"})
			checkFormat(t, br(impl.NodeIf, one, other, one).nodes(), impl.TextResult{Text: "(if " + want + " then " + text + " else " + want + " end)"})
			checkFormat(t, br(impl.NodeReduce, other, one, other).named("y").nodes(), impl.TextResult{Text: "(reduce " + text + " as $y (" + want + " ; " + text + "))"})
			object := br(impl.NodeMember, br(impl.NodeMember, br(impl.NodeBare), one).named("k"), other).named("a")
			checkFormat(t, object.nodes(), impl.TextResult{Text: `{"k":` + want + `,"a":` + text + "}"})
		}
	}
	if len(met) != 24 || len(oneOfEach()) < 50 {
		t.Error(met)
	}
}

// nest is how many terms are within one another in a branch's text.
func (b *branch) nest() int {
	inner, last := 0, 0
	for _, kid := range b.kids {
		inner, last = max(inner, last), kid.nest()
	}
	switch b.op {
	case impl.NodeAt, impl.NodeEach:
		return max(inner, last)
	case impl.NodeMember:
		// A is those members that stand in the same braces.
		return max(inner, last+1)
	case impl.NodeTry, impl.NodeIf, impl.NodeReduce:
		return max(inner, last) + 2
	}
	return max(inner, last) + 1
}

// P6 of one tree: its text is read as it, but where that is too long or too
// deep.
func checkTreeBack(t *testing.T, b *branch) {
	t.Helper()
	tree := b.nodes()
	if got, want := impl.TreeFault(tree), modelTreeFault(tree); got != want {
		t.Fatalf("%s: %d, want %d", short(b), got, want)
	}
	if fault := modelTreeFault(tree); fault != 0 {
		checkFormat(t, tree, impl.TextResult{Code: fault})
		return
	}
	text := impl.FormatProgram(tree)
	if text != (impl.TextResult{Text: b.String()}) {
		t.Fatalf("%s: %s", short(b), short(text))
	}
	got := impl.ParseProgram(text.Text)
	tokens := modelLex(text.Text)
	switch {
	case tokens.Code != 0:
		if tokens.Code != impl.ErrMany || !reflect.DeepEqual(got, impl.ProgramResult{Code: tokens.Code, At: tokens.At}) {
			t.Fatalf("%s: %s", short(text), short(got))
		}
	case b.nest() > 30:
		if got.Code != impl.ErrDeep || got.At == 0 || got.Tree != nil {
			t.Fatalf("%s: %s", short(text), short(got))
		}
	case got.Code != 0 || got.At != 0 || !slices.Equal(got.Tree, tree):
		t.Fatalf("%s is read as %s", short(text), short(got))
	}
}

// heads are the nodes of which small trees are made, each without those that it
// names.
func heads() []*branch {
	list := []*branch{br(impl.NodeNumber).numbered(7), br(impl.NodeString).named("a"), br(impl.NodeWord).numbered(1), br(impl.NodeBin).numbered(impl.OpSub), br(impl.NodeBin).numbered(impl.OpEq), br(impl.NodeMember).named("k"), br(impl.NodeReduce).named("x"), br(impl.NodeAs).named("x"), br(impl.NodeAs).named("y"), br(impl.NodeVar).named("x"), br(impl.NodeCall).named("length"), br(impl.NodeCall).named("f"), br(impl.NodeCallOne).named("map")}
	for _, op := range []int64{impl.NodeSelf, impl.NodePipe, impl.NodeComma, impl.NodeAlt, impl.NodeOr, impl.NodeAnd, impl.NodeAt, impl.NodeEach, impl.NodeTry, impl.NodeList, impl.NodeNone, impl.NodeBare, impl.NodeIf, impl.NodeDeep} {
		list = append(list, br(op))
	}
	return list
}

// smallTrees are all of that many nodes with these heads.
func smallTrees(heads []*branch, size int) []*branch {
	bySize := [][]*branch{nil}
	for n := 1; n <= size; n++ {
		var list []*branch
		for _, head := range heads {
			for _, kids := range kidLists(bySize, modelKids(head.op), n-1) {
				list = append(list, &branch{head.op, head.num, head.text, kids})
			}
		}
		bySize = append(bySize, list)
	}
	return bySize[size]
}

// kidLists are all lists of that many trees with that many nodes in all.
func kidLists(bySize [][]*branch, kids, nodes int) [][]*branch {
	if kids == 0 && nodes == 0 {
		return [][]*branch{nil}
	}
	if kids == 0 {
		return nil
	}
	var lists [][]*branch
	for first := 1; first <= nodes; first++ {
		for _, rest := range kidLists(bySize, kids-1, nodes-first) {
			for _, kid := range bySize[first] {
				lists = append(lists, append([]*branch{kid}, rest...))
			}
		}
	}
	return lists
}

func TestSmallTreesAreReadBack(t *testing.T) {
	for size := 1; size <= 4; size++ {
		trees := smallTrees(heads(), size)
		if len(trees) < 10 {
			t.Fatal(size, len(trees))
		}
		for _, tree := range trees {
			checkTreeBack(t, tree)
		}
	}
	few := []*branch{br(impl.NodeSelf), br(impl.NodeBare), br(impl.NodeTry), br(impl.NodeAs).named("x"), br(impl.NodeMember).named("k"), br(impl.NodeAt), br(impl.NodeIf)}
	for size := 5; size <= 6; size++ {
		for _, tree := range smallTrees(few, size) {
			checkTreeBack(t, tree)
		}
	}
}

// grown puts a tree within more nodes of one head, at each place that it has.
func grown(head *branch, depth int) []*branch {
	leaf := br(impl.NodeSelf)
	if head.op == impl.NodeMember {
		leaf = br(impl.NodeBare)
	}
	var list []*branch
	for at := range modelKids(head.op) {
		tree := leaf
		for range depth - 1 {
			kids := slices.Repeat([]*branch{leaf}, modelKids(head.op))
			kids[at] = tree
			tree = &branch{head.op, head.num, head.text, kids}
		}
		list = append(list, tree)
	}
	return list
}

func TestDeepTreesAreReadBack(t *testing.T) {
	for _, head := range heads() {
		for _, depth := range []int{1, 2, 5, 14, 15, 16, 28, 29, 30, 31, 32, 40} {
			for _, tree := range grown(head, depth) {
				fault := int64(0)
				if nodes := len(tree.nodes()); nodes > 200 {
					t.Fatal(nodes)
				}
				if depth > 30 {
					fault = impl.ErrDeep
				}
				if got := impl.TreeFault(tree.nodes()); got != fault {
					t.Errorf("%d of op %d: %d, want %d", depth, head.op, got, fault)
				}
				checkTreeBack(t, tree)
			}
		}
	}
}

// The text of a tree may be longer than one that is read, by its bytes and by
// its tokens.
func TestLongTreesAreReadBack(t *testing.T) {
	wide := func(leaf *branch, leaves int) *branch {
		groups := leaf
		for left := leaves - 1; left > 0; left -= 10 {
			group := leaf
			for range min(left, 10) - 1 {
				group = br(impl.NodeComma, group, leaf)
			}
			groups = br(impl.NodePipe, groups, group)
		}
		return groups
	}
	texts := []*branch{br(impl.NodeSelf), br(impl.NodeNumber).numbered(impl.MaxNumber), br(impl.NodeString).named(strings.Repeat("x", 60)), br(impl.NodeString).named(strings.Repeat(`"`, 60)), br(impl.NodeVar).named(name12)}
	for _, leaf := range texts {
		for leaves := 1; leaves <= 100; leaves++ {
			checkTreeBack(t, wide(leaf, leaves))
		}
	}
	long := wide(texts[3], 100).nodes()
	if got := impl.FormatProgram(long); len(long) != 199 || got.Code != 0 || len(got.Text) < 12000 {
		t.Error(len(long), got.Code, len(got.Text))
	}
	// At MaxText bytes it is read back, at one more not.
	for size := range 60 {
		checkTreeBack(t, br(impl.NodePipe, wide(br(impl.NodeString).named(strings.Repeat("y", 60)), 58), br(impl.NodeComma, br(impl.NodeString).named(strings.Repeat("z", size)), br(impl.NodeString).named(strings.Repeat("z", 60)))))
	}
}

// What is read can be told, and that is read as the same.
func TestTreesAreReadTheSame(t *testing.T) {
	check := func(text string) {
		if read := impl.ParseProgram(text); read.Code == 0 {
			checkTreeBack(t, branchOf(read.Tree))
		}
	}
	shortTexts("", spaced(". .a 1 ( ) [ ] { } f : , | as $x try ? +"), 4, check)
	shortTexts("{ f : ", spaced(`1 , f "g" : } try .a`), 5, check)
}

// faultyTrees are told by hand: each code, and which comes first.
func faultyTrees() []struct {
	tree []node
	code int64
} {
	self, each := node{Op: impl.NodeSelf}, node{Op: impl.NodeEach}
	kind, wide, text := node{Op: 25}, node{Op: impl.NodeNumber, Num: -1}, node{Op: impl.NodeString, Text: "\n"}
	form := node{Op: impl.NodeSelf, Num: 1}
	bare := node{Op: impl.NodeBare}
	long := slices.Repeat([]node{self}, 201)
	return []struct {
		tree []node
		code int64
	}{
		{nil, impl.ErrMany}, {[]node{}, impl.ErrMany}, {long, impl.ErrMany}, {slices.Repeat([]node{kind}, 201), impl.ErrMany}, {slices.Repeat([]node{kind}, 100000), impl.ErrMany}, {long[:200], impl.ErrForm},
		{[]node{{}}, impl.ErrKind}, {[]node{kind}, impl.ErrKind}, {[]node{{Op: -1}}, impl.ErrKind}, {[]node{{Op: math.MinInt64}}, impl.ErrKind}, {[]node{{Op: math.MaxInt64}}, impl.ErrKind}, {[]node{{Op: 25, A: -1, Num: -1, Text: "\n"}}, impl.ErrKind}, {[]node{self, {}}, impl.ErrKind},
		// A field that the op does not name.
		{[]node{{Op: impl.NodeSelf, A: 1}}, impl.ErrForm}, {[]node{{Op: impl.NodeSelf, B: -1}}, impl.ErrForm}, {[]node{{Op: impl.NodeSelf, C: 1}}, impl.ErrForm}, {[]node{{Op: impl.NodeSelf, Num: 1}}, impl.ErrForm}, {[]node{{Op: impl.NodeSelf, Text: "a"}}, impl.ErrForm}, {[]node{{Op: impl.NodeNumber, Text: "1"}}, impl.ErrForm}, {[]node{{Op: impl.NodeString, Num: 1}}, impl.ErrForm}, {[]node{{Op: impl.NodeWord, Text: "null"}}, impl.ErrForm}, {[]node{{Op: impl.NodeVar, Num: 1, Text: "x"}}, impl.ErrForm}, {[]node{{Op: impl.NodeCall, A: 1, Text: "x"}}, impl.ErrForm}, {[]node{{Op: impl.NodeDeep, Text: "x"}}, impl.ErrForm}, {[]node{{Op: impl.NodeNone, Num: -1}}, impl.ErrForm}, {[]node{{Op: impl.NodeBare, C: -1}}, impl.ErrForm}, {[]node{self, {Op: impl.NodeEach, B: 1}}, impl.ErrForm}, {[]node{self, {Op: impl.NodeTry, Num: 1}}, impl.ErrForm}, {[]node{self, {Op: impl.NodeList, Text: "x"}}, impl.ErrForm}, {[]node{self, self, {Op: impl.NodePipe, B: 1, C: 1}}, impl.ErrForm}, {[]node{self, self, {Op: impl.NodePipe, B: 1, Num: 1}}, impl.ErrForm}, {[]node{self, self, {Op: impl.NodeAt, B: 1, Num: 1}}, impl.ErrForm}, {[]node{self, self, self, {Op: impl.NodeIf, B: 1, C: 2, Text: "x"}}, impl.ErrForm}, {[]node{self, self, {Op: impl.NodeAs, B: 1, C: 1, Text: "x"}}, impl.ErrForm}, {[]node{self, self, self, {Op: impl.NodeReduce, B: 1, C: 2, Num: 1, Text: "x"}}, impl.ErrForm}, {[]node{bare, self, {Op: impl.NodeMember, B: 1, C: 1}}, impl.ErrForm},
		// A node that is not ahead.
		{[]node{each}, impl.ErrForm}, {[]node{self, {Op: impl.NodeEach, A: 1}}, impl.ErrForm}, {[]node{self, {Op: impl.NodeEach, A: -1}}, impl.ErrForm}, {[]node{self, {Op: impl.NodeEach, A: 2}, self}, impl.ErrForm}, {[]node{self, {Op: impl.NodeEach, A: math.MinInt64}}, impl.ErrForm}, {[]node{self, {Op: impl.NodeEach, A: math.MaxInt64}}, impl.ErrForm}, {[]node{self, self, {Op: impl.NodePipe, B: 2}}, impl.ErrForm}, {[]node{self, self, {Op: impl.NodePipe, A: -1, B: 1}}, impl.ErrForm}, {[]node{self, self, self, {Op: impl.NodeIf, B: 1, C: 3}}, impl.ErrForm}, {[]node{self, {Op: impl.NodeMember, A: 1, B: 0}}, impl.ErrForm}, {[]node{{Op: impl.NodeMember}}, impl.ErrForm},
		// Texts and numbers.
		{[]node{text}, impl.ErrText}, {[]node{{Op: impl.NodeString, Text: strings.Repeat("x", 61)}}, impl.ErrText}, {[]node{{Op: impl.NodeString, Text: "é"}}, impl.ErrText}, {[]node{{Op: impl.NodeVar}}, impl.ErrText}, {[]node{{Op: impl.NodeVar, Text: "X"}}, impl.ErrText}, {[]node{{Op: impl.NodeVar, Text: name13}}, impl.ErrText}, {[]node{{Op: impl.NodeVar, Text: "$x"}}, impl.ErrText}, {[]node{{Op: impl.NodeCall}}, impl.ErrText}, {[]node{{Op: impl.NodeCall, Text: "if"}}, impl.ErrText}, {[]node{{Op: impl.NodeCall, Text: "null"}}, impl.ErrText}, {[]node{{Op: impl.NodeCall, Text: "a b"}}, impl.ErrText}, {[]node{self, {Op: impl.NodeCallOne}}, impl.ErrText}, {[]node{self, {Op: impl.NodeCallOne, Text: "try"}}, impl.ErrText}, {[]node{self, {Op: impl.NodeCallOne, Text: "0"}}, impl.ErrText}, {[]node{self, self, {Op: impl.NodeAs, B: 1}}, impl.ErrText}, {[]node{self, self, {Op: impl.NodeAs, B: 1, Text: " "}}, impl.ErrText}, {[]node{self, self, self, {Op: impl.NodeReduce, B: 1, C: 2}}, impl.ErrText}, {[]node{self, self, self, {Op: impl.NodeReduce, B: 1, C: 2, Text: "x-"}}, impl.ErrText}, {[]node{bare, self, {Op: impl.NodeMember, B: 1, Text: "\x7f"}}, impl.ErrText}, {[]node{bare, self, {Op: impl.NodeMember, B: 1, Text: strings.Repeat("k", 61)}}, impl.ErrText},
		{[]node{wide}, impl.ErrRange}, {[]node{{Op: impl.NodeNumber, Num: impl.MaxNumber + 1}}, impl.ErrRange}, {[]node{{Op: impl.NodeNumber, Num: math.MinInt64}}, impl.ErrRange}, {[]node{{Op: impl.NodeNumber, Num: math.MaxInt64}}, impl.ErrRange}, {[]node{{Op: impl.NodeWord, Num: 3}}, impl.ErrRange}, {[]node{{Op: impl.NodeWord, Num: -1}}, impl.ErrRange}, {[]node{self, self, {Op: impl.NodeBin, B: 1}}, impl.ErrRange}, {[]node{self, self, {Op: impl.NodeBin, B: 1, Num: 12}}, impl.ErrRange}, {[]node{self, self, {Op: impl.NodeBin, B: 1, Num: -1}}, impl.ErrRange},
		// A member is one of an object.
		{[]node{self, self, {Op: impl.NodeMember, B: 1, Text: "a"}}, impl.ErrForm}, {[]node{{Op: impl.NodeNone}, self, {Op: impl.NodeMember, B: 1}}, impl.ErrForm}, {[]node{self, bare, {Op: impl.NodeMember, A: 0, B: 1, Text: "a"}}, impl.ErrForm}, {[]node{bare, {Op: impl.NodeTry}, self, {Op: impl.NodeMember, A: 1, B: 2}}, impl.ErrForm},
		{[]node{self, self, {Op: impl.NodeMember, B: 1, Text: "\n"}}, impl.ErrText}, {[]node{self, self, {Op: impl.NodeMember, B: 1, Text: "\n", Num: 1}}, impl.ErrForm},
		// Node by node, and the order behind them all.
		{[]node{kind, form, text, wide}, impl.ErrKind}, {[]node{form, kind, text, wide}, impl.ErrForm}, {[]node{text, kind, form, wide}, impl.ErrText}, {[]node{wide, kind, form, text}, impl.ErrRange}, {[]node{self, self, wide}, impl.ErrRange}, {[]node{self, text, self}, impl.ErrText}, {[]node{self, self, self, kind}, impl.ErrKind}, {[]node{self, self, {Op: impl.NodeBin, A: 1, B: 0, Num: 0}}, impl.ErrRange}, {[]node{self, self, {Op: impl.NodeAs, A: 1, B: 0, Text: ""}}, impl.ErrText}, {[]node{{Op: impl.NodeNumber, Num: -1, Text: "x"}}, impl.ErrForm}, {[]node{{Op: impl.NodeString, Num: -1, Text: "\n"}}, impl.ErrForm}, {[]node{{Op: impl.NodeVar, A: 1, Text: "X"}}, impl.ErrForm}, {[]node{self, self, {Op: impl.NodeMember, A: 0, B: 1, Text: "a"}, kind}, impl.ErrForm},
		{[]node{self, self}, impl.ErrForm}, {[]node{self, each, each}, impl.ErrForm}, {[]node{self, each, self}, impl.ErrForm}, {[]node{self, {Op: impl.NodePipe}}, impl.ErrForm}, {[]node{self, self, {Op: impl.NodePipe, A: 1, B: 0}}, impl.ErrForm}, {[]node{self, self, {Op: impl.NodePipe, A: 1, B: 1}}, impl.ErrForm}, {[]node{self, self, {Op: impl.NodeEach, A: 1}}, impl.ErrForm}, {[]node{self, self, each, {Op: impl.NodePipe, A: 2, B: 1}}, impl.ErrForm}, {[]node{self, self, each, {Op: impl.NodePipe, A: 1, B: 2}}, impl.ErrForm}, {[]node{self, self, self, {Op: impl.NodeIf, A: 0, B: 2, C: 1}}, impl.ErrForm}, {[]node{self, self, self, {Op: impl.NodeIf, A: 2, B: 1, C: 0}}, impl.ErrForm}, {[]node{self, self, self, self, {Op: impl.NodeIf, A: 1, B: 2, C: 3}}, impl.ErrForm}, {[]node{self, self, {Op: impl.NodePipe, B: 1}, self}, impl.ErrForm}, {[]node{self, bare, {Op: impl.NodeMember, A: 1, B: 0}}, impl.ErrForm}, {[]node{self, each, {Op: impl.NodePipe, A: 0, B: 1}}, impl.ErrForm},
		// Not in order comes ahead of too deep.
		{append(br(impl.NodeList, grown(each0(), 30)[0]).nodes(), self), impl.ErrForm}, {br(impl.NodeList, grown(each0(), 30)[0]).nodes(), impl.ErrDeep},
	}
}

func each0() *branch { return br(impl.NodeEach) }

func TestTreeFault(t *testing.T) {
	for _, c := range faultyTrees() {
		if got := impl.TreeFault(c.tree); got != c.code {
			t.Errorf("%s: %d, want %d", short(c.tree), got, c.code)
		}
		if got := modelTreeFault(c.tree); got != c.code {
			t.Errorf("%s: the model has %d, want %d", short(c.tree), got, c.code)
		}
	}
	for text, one := range oneOfEach() {
		if got := impl.TreeFault(one.nodes()); got != 0 {
			t.Errorf("%s: %d", text, got)
		}
	}
}

// A fault of a tree is what every function tells of it, and nothing else.
func TestFaultyTreesEverywhere(t *testing.T) {
	for _, c := range faultyTrees() {
		checkFormat(t, c.tree, impl.TextResult{Code: c.code})
		want := impl.IntResult{Code: c.code}
		if got := impl.ScopeFault(c.tree); got != want {
			t.Errorf("%s: %v, want %v", short(c.tree), got, want)
		}
		for _, op := range []int64{0, impl.NodeSelf, impl.NodeEach, 25} {
			if got := impl.UsesOf(c.tree, op); got != want {
				t.Errorf("%s: %v, want %v", short(c.tree), got, want)
			}
		}
		if got := impl.VarsOf(c.tree); !reflect.DeepEqual(got, impl.NamesResult{Code: c.code}) {
			t.Errorf("%s: %v, want %v", short(c.tree), got, want)
		}
	}
}

// changedNodes are the trees with one field of one node changed.
func changedNodes(tree []node, do func([]node)) {
	change := func(at int, set func(n *node)) {
		changed := slices.Clone(tree)
		set(&changed[at])
		do(changed)
	}
	for at := range tree {
		for op := int64(-1); op <= 26; op++ {
			change(at, func(n *node) { n.Op = op })
		}
		for _, link := range []int64{math.MinInt64, -1, 0, 1, 2, 3, int64(at), int64(at) + 1, math.MaxInt64} {
			change(at, func(n *node) { n.A = link })
			change(at, func(n *node) { n.B = link })
			change(at, func(n *node) { n.C = link })
		}
		for _, num := range []int64{math.MinInt64, -1, 0, 1, 2, 3, 11, 12, impl.MaxNumber, impl.MaxNumber + 1, math.MaxInt64} {
			change(at, func(n *node) { n.Num = num })
		}
		for _, text := range []string{"", "a", "if", "\n", name12, name13, "A", "a b", strings.Repeat("a", 60), strings.Repeat("a", 61)} {
			change(at, func(n *node) { n.Text = text })
		}
	}
}

// Two fields are changed, in one node and in two, so that it is seen which code
// comes first.
func TestTreeFaultAgainstModel(t *testing.T) {
	for text, one := range oneOfEach() {
		t.Run(text, func(t *testing.T) {
			t.Parallel()
			changedNodes(one.nodes(), func(tree []node) {
				checkTreeFault(t, tree)
				if len(tree) < 4 {
					changedNodes(tree, func(tree []node) { checkTreeFault(t, tree) })
				}
			})
		})
	}
}

func checkTreeFault(t *testing.T, tree []node) {
	if got, want := impl.TreeFault(tree), modelTreeFault(tree); got != want {
		t.Fatalf("%v: %d, want %d", tree, got, want)
	}
}

// All short lists of nodes that name others, ahead of them or not.
func TestTreeOrderAgainstModel(t *testing.T) {
	pool := []node{{Op: impl.NodeSelf}, {Op: impl.NodeBare}, {Op: impl.NodeIf, A: 0, B: 1, C: 2}, {Op: impl.NodeIf, A: 0, B: 2, C: 1}, {Op: impl.NodeIf, A: 0, B: 1, C: 3}}
	for a := int64(0); a < 4; a++ {
		pool = append(pool, node{Op: impl.NodeEach, A: a})
		for b := int64(0); b < 4; b++ {
			pool = append(pool, node{Op: impl.NodePipe, A: a, B: b}, node{Op: impl.NodeMember, A: a, B: b, Text: "k"})
		}
	}
	var lists func(before []node, n int)
	lists = func(before []node, n int) {
		checkTreeFault(t, before)
		for i := 0; n > 0 && i < len(pool); i++ {
			lists(append(slices.Clone(before), pool[i]), n-1)
		}
	}
	lists(nil, 3)
	lists([]node{{Op: impl.NodeSelf}, {Op: impl.NodeSelf}}, 3)
	lists([]node{{Op: impl.NodeBare}, {Op: impl.NodeSelf}}, 3)
}

// At 200 nodes there is no fault, at 201 there is.
func TestMostNodes(t *testing.T) {
	for nodes := 190; nodes < 210; nodes++ {
		tree := br(impl.NodeBare)
		for left := nodes - 1; left > 0; {
			value := min(left, 12) - 1
			if left-value-1 == 1 {
				value--
			}
			if value > 0 {
				tree = br(impl.NodeMember, tree, grown(each0(), value)[0])
			} else {
				tree = br(impl.NodeEach, tree)
			}
			left -= value + 1
		}
		list := tree.nodes()
		want := int64(0)
		if nodes > 200 {
			want = impl.ErrMany
		}
		if got := impl.TreeFault(list); got != want || len(list) != nodes {
			t.Errorf("%d of %d nodes: %d, want %d", len(list), nodes, got, want)
		}
		if got := impl.UsesOf(list, impl.NodeBare); want == 0 && got != (impl.IntResult{Value: 1}) {
			t.Error(got)
		}
	}
}

// Each case is a program and the text of what is not known in it, its place
// being told by hand; -1 for none.
func TestScopeFault(t *testing.T) {
	cases := map[string]int64{
		".": -1, "1": -1, "$x": 0, "1,$x": 1, "[$x]": 0, "$x|$y": 0,
		". as $x | $x": -1, ". as $x | $y": 1, "$x as $x | 1": 0, "$x as $x | $x": 0, ". as $x | . | [$x]": -1, "(. as $x | $x) | $x": 3, "(. as $x | 1) , $x": 3, "$x , (. as $x | $x)": 0, ". as $x | . as $y | $x + $y": -1, ". as $x | . as $x | $x": -1, ". as $x | $x as $x | $x": -1, ". as $x | $x as $y | $y": -1, ". as $x | $y as $y | $x": 1, ". as $x | . as $y | $z": 2, "(. as $x | $x) as $y | $x": 3, "(. as $x | $x) as $x | $x": -1, ". as $xy | $x": 1, ". as $x | $xy": 1, ". as $x | if $x then $x else $y end": 3, ". as $x | {a:$x,b:$x}": -1, ". as $if | $if": -1, "$if": 0,
		"reduce . as $x (1;$x)": -1, "reduce . as $x ($x;1)": 1, "reduce $x as $x (1;$x)": 0, "reduce . as $x (1;$y)": 2, "reduce . as $x (1;2) | $x": 4, "$x | reduce . as $x (1;2)": 0, "reduce . as $x (1;. + $x | [$x])": -1, ". as $x | reduce $x as $y ($x;$x+$y)": -1, ". as $x | reduce $x as $y ($y;1)": 2, "reduce . as $x (1; . as $y | $x + $y)": -1, "reduce . as $x (. as $y | $y; $y)": 4, "reduce . as $x (1;reduce $x as $y ($x;$x+$y))": -1, "reduce (. as $x | $x) as $y (1;$x)": 4, "reduce . as $x (reduce . as $x (1;$x);$x)": -1, "reduce . as $x (reduce . as $y (1;$x);$y)": 3,
		"length": -1, "keys": -1, "not": -1, "empty": -1, "error": -1, "type": -1, "sort": -1, "add": -1, "map": 0, "select": 0, "range": 0, "f": 0, "lengths": 0, "nope": 0,
		"map(1)": -1, "select(1)": -1, "range(1)": -1, "length(1)": 1, "keys(1)": 1, "not(1)": 1, "empty(1)": 1, "error(1)": 1, "type(1)": 1, "sort(1)": 1, "add(1)": 1, "f(1)": 1, "maps(1)": 1, "map(f)": 0, "f(map(1))": 2, "map(f(.))": 1, "map($x)": 0, "f($x)": 0, ". as $x | map($x)": -1, ". as $x | f($x)": 2, "map(. as $x | $x)": -1,
		// The first of the list, which is not always the first of the text.
		"f(g)": 0, "f($x)|g": 0, "1 , f , $x": 1, "f(1) , g": 1, ". as $x | f , $y": 1, "{a:f,b:g}": 1, "f , 1": 0, "if f then $x else g end": 0, "if 1 then $x else g end": 1, "f(1,2)": 3,
		".length": -1, ".f": -1, "$length": 0, `"f"`: -1, "{f:1}": -1, ". as $f | f": 1, ". as $f | $f": -1, "map(length) | add": -1,
	}
	for text, place := range cases {
		want := impl.IntResult{}
		if place >= 0 {
			want = impl.IntResult{Code: impl.ErrNone, Value: place}
		}
		if got := impl.ScopeFault(treeOf(text)); got != want {
			t.Errorf("%s: %v, want %v", text, got, want)
		}
		if got := modelScopeFault(treeOf(text)); got != want {
			t.Errorf("%s: the model has %v, want %v", text, got, want)
		}
	}
}

func TestScopesAgainstModel(t *testing.T) {
	bound := []*branch{br(impl.NodeVar).named("x"), br(impl.NodeVar).named("y"), br(impl.NodeAs).named("x"), br(impl.NodeAs).named("y"), br(impl.NodeReduce).named("x"), br(impl.NodeTry), br(impl.NodeComma)}
	called := []*branch{br(impl.NodeVar).named("x"), br(impl.NodeAs).named("x"), br(impl.NodeCall).named("add"), br(impl.NodeCall).named("map"), br(impl.NodeCallOne).named("add"), br(impl.NodeCallOne).named("map"), br(impl.NodePipe)}
	for _, list := range [][]*branch{heads(), bound, called} {
		for size := 1; size <= 5; size++ {
			if size == 5 && len(list) > 10 {
				continue
			}
			for _, tree := range smallTrees(list, size) {
				nodes := tree.nodes()
				if got, want := impl.ScopeFault(nodes), modelScopeFault(nodes); got != want {
					t.Fatalf("%s: %v, want %v", tree, got, want)
				}
			}
		}
	}
	// Bound from far away, through every node and every place in it.
	for _, head := range heads() {
		for _, tree := range grown(head, 20) {
			for _, name := range []string{"x", "y"} {
				within := strings.Replace(tree.String(), ".", "$x", 1)
				read := modelParse(". as $" + name + " | " + within)
				if read.Code != 0 {
					continue
				}
				if got, want := impl.ScopeFault(read.Tree), modelScopeFault(read.Tree); got != want {
					t.Errorf("%s: %v, want %v", within, got, want)
				}
			}
		}
	}
}

func TestVarsOf(t *testing.T) {
	cases := map[string]string{
		".": "", "$x": "", "$x | $y": "", "f(1)": "", "{x:1}": "", `"x"`: "",
		". as $x | 1": "x", ". as $x | $y": "x", "reduce . as $x (1;2)": "x", ". as $if | 1": "if",
		// In the order of texts, wherever the nodes stand.
		". as $x | . as $y | 1": "x y", ". as $y | . as $x | 1": "x y", "(. as $x | 1) | . as $y | 2": "x y", "(. as $y | 1) | . as $x | 2": "x y", "(. as $y | .) , (. as $x | .)": "x y", "(. as $b | 1) , (. as $a | 2) , (. as $c | 3)": "a b c",
		". as $x | . as $x | 1": "x", "(. as $x | 1) , (. as $y | 2) , (. as $x | 3)": "x y", "(. as $y | 1) , (. as $x | 2) , (. as $y | 3)": "x y", "(. as $x | 1) , reduce . as $x (1;2)": "x", "reduce . as $y (. as $x | 1; . as $z | 2)": "x y z", "(. as $x | 1) as $y | . as $z | reduce . as $x (1;2)": "x y z", "reduce reduce . as $c (1;2) as $b (1;2) | . as $a | 1": "a b c",
		// Byte by byte: a beginning comes first, digits ahead of _ ahead of letters.
		". as $ab | . as $b | . as $a | 1": "a ab b", ". as $x_ | . as $xa | . as $x9 | . as $x10 | . as $x | 1": "x x10 x9 x_ xa", ". as $then | . as $if | . as $end | 1": "end if then", ". as $" + name12 + " | . as $a | 1": "a " + name12,
	}
	for text, want := range cases {
		got := impl.VarsOf(treeOf(text))
		if got.Code != 0 || !slices.Equal(got.Names, strings.Fields(want)) {
			t.Errorf("%s: %v, want %s", text, got, want)
		}
	}
	// Members and calls have a Text, too, but no variable's.
	for size := 1; size <= 5; size++ {
		list := heads()
		if size > 3 {
			list = []*branch{br(impl.NodeSelf), br(impl.NodeAs).named("x"), br(impl.NodeAs).named("y"), br(impl.NodeReduce).named("w"), br(impl.NodeCallOne).named("v"), br(impl.NodeVar).named("z")}
		}
		for _, tree := range smallTrees(list, size) {
			got, want := impl.VarsOf(tree.nodes()), modelVars(tree.nodes())
			if got.Code != want.Code || !slices.Equal(got.Names, want.Names) {
				t.Errorf("%s: %v, want %v", tree, got, want)
			}
		}
	}
}

func modelVars(tree []node) impl.NamesResult {
	if fault := modelTreeFault(tree); fault != 0 {
		return impl.NamesResult{Code: fault}
	}
	names := map[string]bool{}
	for _, n := range tree {
		if n.Op == 19 || n.Op == 20 {
			names[n.Text] = true
		}
	}
	return impl.NamesResult{Names: slices.Sorted(maps.Keys(names))}
}

func TestUsesOf(t *testing.T) {
	tree := treeOf(`. as $x | if .a == 1 then [$x, "s", null] elif try f(..) then {a:1,b:.c?} else reduce .[] as $y (0; . + $y) // [] end`)
	want := map[int64]int64{impl.NodeSelf: 5, impl.NodeNumber: 3, impl.NodeString: 3, impl.NodeWord: 1, impl.NodePipe: 0, impl.NodeComma: 2, impl.NodeAlt: 1, impl.NodeBin: 2, impl.NodeAt: 2, impl.NodeEach: 1, impl.NodeTry: 2, impl.NodeList: 1, impl.NodeNone: 1, impl.NodeBare: 1, impl.NodeMember: 2, impl.NodeIf: 2, impl.NodeReduce: 1, impl.NodeAs: 1, impl.NodeVar: 2, impl.NodeCallOne: 1, impl.NodeDeep: 1}
	var all int64
	for _, op := range append(slices.Clone(farNumbers), 5, 6, 7, 8, 9, 10, 11, 12, 13, 14, 15, 16, 17, 18, 19, 20, 21, 22, 23, 24, 25) {
		got := impl.UsesOf(tree, op)
		if got != (impl.IntResult{Value: want[op]}) {
			t.Errorf("op %d: %v, want %d", op, got, want[op])
		}
		all += got.Value
	}
	if all != int64(len(tree)) {
		t.Error(all, len(tree))
	}
}

// callAllTrees is what all functions of the chapter answer to these arguments.
func callAllTrees(tree []node, text string, op int64) []any {
	return []any{impl.TreeFault(tree), impl.ParseProgram(text), impl.ParseProgram(text), impl.FormatProgram(tree), impl.ScopeFault(tree), impl.VarsOf(tree), impl.VarsOf(tree), impl.UsesOf(tree, op)}
}

// P1 of this chapter.
func TestTreesArgumentsStayAndAnswersAreNew(t *testing.T) {
	var trees [][]node
	for _, c := range faultyTrees() {
		trees = append(trees, c.tree)
	}
	for _, one := range oneOfEach() {
		trees = append(trees, one.nodes())
	}
	for op := int64(-1); op < 27; op++ {
		for _, n := range []node{{Op: op}, {Op: op, A: 1, B: 2, C: 3, Num: 4, Text: "x"}, {Op: op, A: math.MinInt64, B: math.MaxInt64, C: -1, Num: math.MinInt64, Text: strings.Repeat("\xff", 1000)}} {
			trees = append(trees, []node{n}, slices.Repeat([]node{n}, 200), slices.Repeat([]node{n}, 201), []node{{Op: 1}, {Op: 1}, {Op: 1}, n})
		}
	}
	// Each node names the one ahead of it twice, and that again.
	doubled := []node{{Op: impl.NodeSelf}}
	for at := int64(0); len(doubled) < 200; at++ {
		doubled = append(doubled, node{Op: impl.NodePipe, A: at, B: at})
	}
	trees = append(trees, doubled, treeOf(". as $x | . as $y | reduce . as $z (1;2)"))
	texts := []string{"", " ", ".", ".a|.b+1", ". as $x | $y", "1 + . as $x | 2", "{a:1,", "((", ")", "#", strings.Repeat("(", 31), strings.Repeat("1,", 149) + "1", strings.Repeat("1 ", 301), strings.Repeat(" ", 4000), strings.Repeat("(", 4001), strings.Repeat("\xff", 100000), "\x00\x80\xff", "é", wideText(199), wideText(201)}
	for i, given := range trees {
		text := texts[i%len(texts)]
		op := farNumbers[i%len(farNumbers)]
		kept := slices.Clone(given)
		first := callAllTrees(given, text, op)
		checkApart(t, first, given)
		second := callAllTrees(given, text, op)
		if !reflect.DeepEqual(first, second) {
			t.Errorf("%s and %s: %s, then %s", short(given), short(text), short(first), short(second))
		}
		scribble(first)
		if !slices.Equal(given, kept) {
			t.Errorf("%s is changed", short(kept))
		}
		if third := callAllTrees(given, text, op); !reflect.DeepEqual(second, third) {
			t.Errorf("%s and %s: %s, then %s", short(given), short(text), short(second), short(third))
		}
		roomy := append(make([]node, 0, len(given)+3), given...)
		if fourth := callAllTrees(roomy, text, op); !reflect.DeepEqual(second, fourth) || slices.ContainsFunc(roomy[:cap(roomy)][len(roomy):], func(n node) bool { return n != node{} }) {
			t.Errorf("%s and %s: %s, then %s", short(given), short(text), short(second), short(fourth))
		}
	}
	for _, text := range texts {
		if got, again := impl.ParseProgram(text), impl.ParseProgram(text); !reflect.DeepEqual(got, again) {
			t.Errorf("%s: %s, then %s", short(text), short(got), short(again))
		}
	}
	if !reflect.DeepEqual(callAllTrees(nil, "", 0), callAllTrees([]node{}, "", 0)) {
		t.Error("nil and an empty list are told apart")
	}
}

// With a code all else is zero, whatever is asked.
func TestTreeCodesStandAlone(t *testing.T) {
	for b := range 256 {
		for _, text := range []string{string([]byte{byte(b)}), ".a|" + string([]byte{byte(b)}), "(" + string([]byte{byte(b)}), "1" + string([]byte{byte(b)}) + "1"} {
			if got := impl.ParseProgram(text); got.Code != 0 && got.Tree != nil || got.Code == 0 && (got.At != 0 || impl.TreeFault(got.Tree) != 0) {
				t.Errorf("%q: %v", text, got)
			}
			checkParse(t, text)
		}
	}
}
