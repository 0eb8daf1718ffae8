package tests

import (
	"math"
	"reflect"
	"slices"
	"strconv"
	"strings"
	"testing"

	"loop.example/g00166/impl"
)

type core = impl.Core

func TestCoreConstants(t *testing.T) {
	got := []int64{impl.CoreSelf, impl.CoreConst, impl.CorePipe, impl.CoreComma, impl.CoreAlt, impl.CoreBin, impl.CoreAt, impl.CoreEach, impl.CoreTry, impl.CoreList, impl.CoreMember, impl.CoreIf, impl.CoreReduce, impl.CoreAs, impl.CoreVar, impl.CoreDo, impl.CoreEmpty, impl.DoLength, impl.DoKeys, impl.DoType, impl.DoSort, impl.DoAdd, impl.DoRange, impl.DoDeep, impl.DoError, impl.MaxCore, impl.MaxSlots}
	want := []int64{1, 2, 3, 4, 5, 6, 7, 8, 9, 10, 11, 12, 13, 14, 15, 16, 17, 1, 2, 3, 4, 5, 6, 7, 8, 900, 60}
	if !slices.Equal(got, want) {
		t.Error(got)
	}
}

// oneCoreOfEach has for each op twigs whose last node has it, and their texts by
// hand, line by line.
func oneCoreOfEach() map[string]*twig {
	self, empty, one := tw(impl.CoreSelf), tw(impl.CoreEmpty), tw(impl.CoreConst).valued(num(1))
	x := tw(impl.CoreVar)
	selves := "0 1 0 0 0 0 -;1 2 0 0 0 0 1;"
	cores := map[string]*twig{
		"0 1 0 0 0 0 -": self, "0 17 0 0 0 0 -": empty,
		"0 2 0 0 0 0 1": one, "0 2 0 0 0 0 null": tw(impl.CoreConst).valued(null()), "0 2 0 0 0 0 []": tw(impl.CoreConst).valued(arr()), `0 2 0 0 0 0 "-"`: tw(impl.CoreConst).valued(str("-")), `0 2 0 0 0 0 {"a":[-1,"\"\\"],"b":{}}`: tw(impl.CoreConst).valued(val(`{"a":[-1,"\"\\"],"b":{}}`)),
		selves + "2 3 0 1 0 0 -": tw(impl.CorePipe, self, one), selves + "2 4 0 1 0 0 -": tw(impl.CoreComma, self, one), selves + "2 5 0 1 0 0 -": tw(impl.CoreAlt, self, one), selves + "2 7 0 1 0 0 -": tw(impl.CoreAt, self, one),
		selves + "2 6 0 1 0 1 -": tw(impl.CoreBin, self, one).numbered(impl.OpAdd), selves + "2 6 0 1 0 11 -": tw(impl.CoreBin, self, one).numbered(impl.OpMod),
		"0 1 0 0 0 0 -;1 8 0 0 0 0 -": tw(impl.CoreEach, self), "0 1 0 0 0 0 -;1 9 0 0 0 0 -": tw(impl.CoreTry, self), "0 1 0 0 0 0 -;1 10 0 0 0 0 -": tw(impl.CoreList, self),
		selves + `2 11 0 1 0 0 "k"`: tw(impl.CoreMember, self, one).valued(str("k")), selves + `2 11 0 1 0 0 ""`: tw(impl.CoreMember, self, one).valued(str("")),
		selves + "2 17 0 0 0 0 -;3 12 0 1 2 0 -":                                                 tw(impl.CoreIf, self, one, empty),
		selves + "2 15 0 0 0 0 -;3 13 0 1 2 0 -":                                                 tw(impl.CoreReduce, self, one, x),
		selves + "2 1 0 0 0 0 -;3 13 0 1 2 59 -":                                                 tw(impl.CoreReduce, self, one, self).numbered(59),
		"0 1 0 0 0 0 -;1 15 0 0 0 7 -;2 14 0 1 0 7 -":                                            tw(impl.CoreAs, self, x.numbered(7)).numbered(7),
		selves + "2 14 0 1 0 59 -":                                                               tw(impl.CoreAs, self, one).numbered(59),
		"0 1 0 0 0 0 -;1 1 0 0 0 0 -;2 15 0 0 0 0 -;3 8 2 0 0 0 -;4 14 1 3 0 1 -;5 14 0 4 0 0 -": tw(impl.CoreAs, self, tw(impl.CoreAs, self, tw(impl.CoreEach, x)).numbered(1)),
	}
	for do := range int64(8) {
		cores["0 16 0 0 0 "+strconv.FormatInt(do+1, 10)+" -"] = tw(impl.CoreDo).numbered(do + 1)
	}
	return cores
}

func TestCoreText(t *testing.T) {
	met := map[int64]int{}
	for lines, one := range oneCoreOfEach() {
		met[one.op]++
		want := impl.TextResult{Text: strings.ReplaceAll(lines, ";", "\n") + "\n"}
		if got := impl.CoreText(one.nodes()); got != want {
			t.Errorf("%s: %v, want %v", one, got, want)
		}
		if got := modelCoreText(one.nodes()); got != want {
			t.Errorf("%s: the model has %v, want %v", one, got, want)
		}
	}
	// A variable by itself is not bound.
	if len(met) != 16 || met[impl.CoreVar] != 0 {
		t.Error(met)
	}
	for _, v := range sound() {
		for _, w := range []*twig{tw(impl.CoreConst).valued(v), tw(impl.CoreMember, tw(impl.CoreConst).valued(v), tw(impl.CoreSelf)).valued(v)} {
			if got, want := impl.CoreText(w.nodes()), modelCoreText(w.nodes()); got != want {
				t.Errorf("%s: %s, want %s", short(w), short(got), short(want))
			}
		}
	}
	// Places of one, two and three digits.
	list := wideCore(450).nodes()
	if got, want := impl.CoreText(list), modelCoreText(list); got != want || !strings.HasSuffix(got.Text, "\n898 4 448 897 0 0 -\n") {
		t.Error(short(got))
	}
}

// wideCore has that many leaves, joined by commas as evenly as can be.
func wideCore(leaves int) *twig {
	if leaves == 1 {
		return tw(impl.CoreSelf)
	}
	return tw(impl.CoreComma, wideCore(leaves/2), wideCore(leaves-leaves/2))
}

// grownCore puts a core within more nodes of one op, at each place that it has.
func grownCore(head *twig, depth int) []*twig {
	self := tw(impl.CoreSelf)
	var list []*twig
	for at := range coreKids(head.op) {
		whole := self
		for range depth - 1 {
			kids := slices.Repeat([]*twig{self}, coreKids(head.op))
			kids[at] = whole
			whole = &twig{head.op, head.num, head.val, kids}
		}
		list = append(list, whole)
	}
	return list
}

// coreHeads are those that name others.
func coreHeads() []*twig {
	list := []*twig{tw(impl.CoreBin).numbered(1), tw(impl.CoreMember).valued(str("k")), tw(impl.CoreReduce).numbered(3), tw(impl.CoreAs).numbered(59)}
	for _, op := range []int64{impl.CorePipe, impl.CoreComma, impl.CoreAlt, impl.CoreAt, impl.CoreEach, impl.CoreTry, impl.CoreList, impl.CoreIf} {
		list = append(list, tw(op))
	}
	return list
}

// headsOfEveryBin are those, and a CoreBin of every other op of two values.
func headsOfEveryBin() []*twig {
	list := coreHeads()
	for op := int64(2); op <= impl.OpMod; op++ {
		list = append(list, tw(impl.CoreBin).numbered(op))
	}
	return list
}

func TestCoreDepth(t *testing.T) {
	for _, head := range coreHeads() {
		for _, depth := range []int{1, 2, 30, 31, 119, 120, 121, 122, 200} {
			for _, w := range grownCore(head, depth) {
				want := int64(0)
				if depth > 120 {
					want = impl.ErrDeep
				}
				list := w.nodes()
				if got := impl.CoreFault(list); got != want || len(list) > 900 {
					t.Errorf("%d of op %d: %d, want %d", depth, head.op, got, want)
				}
			}
		}
	}
}

func TestMostCoreNodes(t *testing.T) {
	for nodes := 890; nodes <= 910; nodes++ {
		w := wideCore((nodes + 1) / 2)
		if nodes%2 == 0 {
			w = tw(impl.CoreTry, wideCore(nodes/2))
		}
		list := w.nodes()
		want := int64(0)
		if nodes > 900 {
			want = impl.ErrMany
		}
		if got := impl.CoreFault(list); got != want || len(list) != nodes {
			t.Errorf("%d of %d nodes: %d, want %d", len(list), nodes, got, want)
		}
		if got := impl.CoreText(list); got.Code != want || strings.Count(got.Text, "\n") != nodes*int(1-min(1, want)) {
			t.Errorf("%d nodes: %s", nodes, short(got))
		}
		if got := impl.SlotsOf(list); got != (impl.IntResult{Code: want}) {
			t.Errorf("%d nodes: %v", nodes, got)
		}
	}
}

type faultyCore struct {
	core []core
	code int64
}

// faultyCores are told by hand: each code, and which comes first.
func faultyCores() []faultyCore {
	self, each, one := core{Op: impl.CoreSelf}, core{Op: impl.CoreEach}, core{Op: impl.CoreConst, Val: num(1)}
	kind, form, text, wide := core{Op: 18}, core{Op: impl.CoreSelf, Num: 1}, core{Op: impl.CoreConst, Val: str("\n")}, core{Op: impl.CoreDo, Num: 9}
	x := core{Op: impl.CoreVar}
	long := slices.Repeat([]core{self}, 901)
	list := []faultyCore{
		{nil, impl.ErrMany}, {[]core{}, impl.ErrMany}, {long, impl.ErrMany}, {slices.Repeat([]core{kind}, 901), impl.ErrMany}, {slices.Repeat([]core{kind}, 100000), impl.ErrMany}, {long[:900], impl.ErrForm}, {slices.Repeat([]core{kind}, 900), impl.ErrKind},
		{[]core{{}}, impl.ErrKind}, {[]core{kind}, impl.ErrKind}, {[]core{{Op: -1}}, impl.ErrKind}, {[]core{{Op: math.MinInt64}}, impl.ErrKind}, {[]core{{Op: math.MaxInt64}}, impl.ErrKind}, {[]core{{Op: 18, A: -1, Num: -1, Val: str("\n")}}, impl.ErrKind}, {[]core{self, {}}, impl.ErrKind},
		// A field that the op does not name.
		{[]core{{Op: impl.CoreSelf, A: 1}}, impl.ErrForm}, {[]core{{Op: impl.CoreSelf, B: -1}}, impl.ErrForm}, {[]core{{Op: impl.CoreSelf, C: 1}}, impl.ErrForm}, {[]core{form}, impl.ErrForm}, {[]core{{Op: impl.CoreSelf, Val: null()}}, impl.ErrForm}, {[]core{{Op: impl.CoreEmpty, A: 1}}, impl.ErrForm}, {[]core{{Op: impl.CoreEmpty, Num: -1}}, impl.ErrForm}, {[]core{{Op: impl.CoreEmpty, Val: null()}}, impl.ErrForm}, {[]core{{Op: impl.CoreConst, A: 1, Val: null()}}, impl.ErrForm}, {[]core{{Op: impl.CoreConst, Num: 1, Val: null()}}, impl.ErrForm}, {[]core{{Op: impl.CoreDo, A: 1, Num: 1}}, impl.ErrForm}, {[]core{{Op: impl.CoreDo, Num: 1, Val: null()}}, impl.ErrForm}, {[]core{{Op: impl.CoreVar, B: 1}}, impl.ErrForm}, {[]core{{Op: impl.CoreVar, Val: str("x")}}, impl.ErrForm},
		{[]core{self, {Op: impl.CoreEach, B: 1}}, impl.ErrForm}, {[]core{self, {Op: impl.CoreTry, Num: 1}}, impl.ErrForm}, {[]core{self, {Op: impl.CoreList, Val: null()}}, impl.ErrForm}, {[]core{self, self, {Op: impl.CorePipe, B: 1, C: 1}}, impl.ErrForm}, {[]core{self, self, {Op: impl.CoreComma, B: 1, Num: 1}}, impl.ErrForm}, {[]core{self, self, {Op: impl.CoreAlt, B: 1, Val: null()}}, impl.ErrForm}, {[]core{self, self, {Op: impl.CoreAt, B: 1, Num: 1}}, impl.ErrForm}, {[]core{self, self, {Op: impl.CoreBin, B: 1, C: 1, Num: 1}}, impl.ErrForm}, {[]core{self, self, {Op: impl.CoreBin, B: 1, Num: 1, Val: null()}}, impl.ErrForm}, {[]core{self, self, {Op: impl.CoreMember, B: 1, Num: 1, Val: str("k")}}, impl.ErrForm}, {[]core{self, self, {Op: impl.CoreMember, B: 1, C: 1, Val: str("k")}}, impl.ErrForm}, {[]core{self, self, self, {Op: impl.CoreIf, B: 1, C: 2, Num: 1}}, impl.ErrForm}, {[]core{self, self, self, {Op: impl.CoreIf, B: 1, C: 2, Val: null()}}, impl.ErrForm}, {[]core{self, self, self, {Op: impl.CoreReduce, B: 1, C: 2, Val: str("x")}}, impl.ErrForm}, {[]core{self, self, {Op: impl.CoreAs, B: 1, C: 1}}, impl.ErrForm}, {[]core{self, self, {Op: impl.CoreAs, B: 1, Val: str("x")}}, impl.ErrForm},
		// A node that is not ahead.
		{[]core{each}, impl.ErrForm}, {[]core{self, {Op: impl.CoreEach, A: 1}}, impl.ErrForm}, {[]core{self, {Op: impl.CoreEach, A: -1}}, impl.ErrForm}, {[]core{self, {Op: impl.CoreEach, A: 2}, self}, impl.ErrForm}, {[]core{self, {Op: impl.CoreEach, A: math.MinInt64}}, impl.ErrForm}, {[]core{self, {Op: impl.CoreEach, A: math.MaxInt64}}, impl.ErrForm}, {[]core{self, self, {Op: impl.CorePipe, B: 2}}, impl.ErrForm}, {[]core{self, self, {Op: impl.CorePipe, A: -1, B: 1}}, impl.ErrForm}, {[]core{self, self, self, {Op: impl.CoreIf, B: 1, C: 3}}, impl.ErrForm}, {[]core{self, self, self, {Op: impl.CoreReduce, B: 1, C: -1}}, impl.ErrForm}, {[]core{{Op: impl.CoreMember, Val: str("k")}}, impl.ErrForm}, {[]core{{Op: impl.CoreAs}}, impl.ErrForm},
		// What a member's Val is, and Num.
		{[]core{self, self, {Op: impl.CoreMember, B: 1}}, impl.ErrMany}, {[]core{self, self, {Op: impl.CoreMember, B: 1, Val: null()}}, impl.ErrKind}, {[]core{self, self, {Op: impl.CoreMember, B: 1, Val: num(1)}}, impl.ErrKind}, {[]core{self, self, {Op: impl.CoreMember, B: 1, Val: arr(str("k"))}}, impl.ErrKind}, {[]core{self, self, {Op: impl.CoreMember, B: 1, Val: obj()}}, impl.ErrKind}, {[]core{self, self, {Op: impl.CoreMember, B: 1, Val: member("k", str("k"))}}, impl.ErrForm}, {[]core{self, self, {Op: impl.CoreMember, B: 1, Val: slices.Concat(str("k"), str("k"))}}, impl.ErrForm},
		{[]core{wide}, impl.ErrRange}, {[]core{{Op: impl.CoreDo}}, impl.ErrRange}, {[]core{{Op: impl.CoreDo, Num: -1}}, impl.ErrRange}, {[]core{{Op: impl.CoreDo, Num: math.MaxInt64}}, impl.ErrRange}, {[]core{self, self, {Op: impl.CoreBin, B: 1}}, impl.ErrRange}, {[]core{self, self, {Op: impl.CoreBin, B: 1, Num: 12}}, impl.ErrRange}, {[]core{self, self, {Op: impl.CoreBin, B: 1, Num: math.MinInt64}}, impl.ErrRange}, {[]core{{Op: impl.CoreVar, Num: -1}}, impl.ErrRange}, {[]core{{Op: impl.CoreVar, Num: 60}}, impl.ErrRange}, {[]core{self, self, {Op: impl.CoreAs, B: 1, Num: 60}}, impl.ErrRange}, {[]core{self, self, {Op: impl.CoreAs, B: 1, Num: -1}}, impl.ErrRange}, {[]core{self, self, self, {Op: impl.CoreReduce, B: 1, C: 2, Num: 60}}, impl.ErrRange}, {[]core{self, self, self, {Op: impl.CoreReduce, B: 1, C: 2, Num: math.MinInt64}}, impl.ErrRange},
		// Node by node, and within one: form, value, kind, range.
		{[]core{kind, form, text, wide}, impl.ErrKind}, {[]core{form, kind, text, wide}, impl.ErrForm}, {[]core{text, kind, form, wide}, impl.ErrText}, {[]core{wide, kind, form, text}, impl.ErrRange}, {[]core{self, self, wide}, impl.ErrRange}, {[]core{self, text, self}, impl.ErrText}, {[]core{self, self, self, kind}, impl.ErrKind}, {[]core{x, kind}, impl.ErrKind}, {[]core{x, x, wide}, impl.ErrRange}, {[]core{{Op: impl.CoreConst, Num: 1, Val: str("\n")}}, impl.ErrForm}, {[]core{{Op: impl.CoreConst, C: 1}}, impl.ErrForm}, {[]core{self, {Op: impl.CoreMember, A: 0, B: 1, Val: num(1)}}, impl.ErrForm}, {[]core{{Op: impl.CoreDo, Num: 9, Val: null()}}, impl.ErrForm}, {[]core{{Op: impl.CoreDo, A: 1, Num: 9}}, impl.ErrForm}, {[]core{{Op: impl.CoreVar, Num: 60, Val: null()}}, impl.ErrForm}, {[]core{self, self, {Op: impl.CoreBin, A: 1, B: 0, Num: 0}}, impl.ErrRange}, {[]core{self, self, {Op: impl.CoreMember, A: 1, B: 0, Val: num(1)}}, impl.ErrKind},
		// The order of the nodes.
		{[]core{self, self}, impl.ErrForm}, {[]core{one, one, one}, impl.ErrForm}, {[]core{self, each, each}, impl.ErrForm}, {[]core{self, each, self}, impl.ErrForm}, {[]core{self, {Op: impl.CorePipe}}, impl.ErrForm}, {[]core{self, self, {Op: impl.CorePipe, A: 1, B: 0}}, impl.ErrForm}, {[]core{self, self, {Op: impl.CorePipe, A: 1, B: 1}}, impl.ErrForm}, {[]core{self, self, {Op: impl.CoreEach, A: 1}}, impl.ErrForm}, {[]core{self, self, each, {Op: impl.CorePipe, A: 2, B: 1}}, impl.ErrForm}, {[]core{self, self, each, {Op: impl.CorePipe, A: 1, B: 2}}, impl.ErrForm}, {[]core{self, self, self, {Op: impl.CoreIf, A: 0, B: 2, C: 1}}, impl.ErrForm}, {[]core{self, self, self, {Op: impl.CoreReduce, A: 2, B: 1, C: 0}}, impl.ErrForm}, {[]core{self, self, self, self, {Op: impl.CoreIf, A: 1, B: 2, C: 3}}, impl.ErrForm}, {[]core{self, self, {Op: impl.CorePipe, B: 1}, self}, impl.ErrForm}, {[]core{self, each, {Op: impl.CorePipe, A: 0, B: 1}}, impl.ErrForm}, {[]core{self, self, {Op: impl.CoreMember, A: 1, B: 0, Val: str("k")}}, impl.ErrForm}, {[]core{self, self, {Op: impl.CoreAs, A: 1, B: 0}}, impl.ErrForm},
		// The order comes ahead of a slot that is not bound, and that ahead of too
		// deep.
		{[]core{x}, impl.ErrNone}, {[]core{x, x}, impl.ErrForm}, {[]core{x, self}, impl.ErrForm}, {append(tw(impl.CoreList, grownCore(tw(impl.CoreEach), 120)[0]).nodes(), self), impl.ErrForm}, {tw(impl.CoreList, grownCore(tw(impl.CoreEach), 120)[0]).nodes(), impl.ErrDeep}, {tw(impl.CorePipe, grownCore(tw(impl.CoreEach), 120)[0], tw(impl.CoreVar)).nodes(), impl.ErrNone}, {tw(impl.CorePipe, grownCore(tw(impl.CoreEach), 119)[0], tw(impl.CoreVar)).nodes(), impl.ErrNone}, {tw(impl.CoreAs, grownCore(tw(impl.CoreEach), 120)[0], tw(impl.CoreVar)).nodes(), impl.ErrDeep}, {append(tw(impl.CorePipe, grownCore(tw(impl.CoreEach), 120)[0], tw(impl.CoreVar)).nodes(), self), impl.ErrForm},
	}
	for _, c := range faulty() {
		list = append(list, faultyCore{[]core{{Op: impl.CoreConst, Val: c.v}}, c.code}, faultyCore{[]core{self, self, {Op: impl.CoreMember, B: 1, Val: c.v}}, c.code})
	}
	return list
}

// A fault of a core is what every function tells of it, and nothing else.
func TestCoreFault(t *testing.T) {
	for _, c := range faultyCores() {
		if got := impl.CoreFault(c.core); got != c.code {
			t.Errorf("%s: %d, want %d", short(c.core), got, c.code)
		}
		if got := modelCoreFault(c.core); got != c.code {
			t.Errorf("%s: the model has %d, want %d", short(c.core), got, c.code)
		}
		if got := impl.CoreText(c.core); got != (impl.TextResult{Code: c.code}) {
			t.Errorf("%s: %s, want %d", short(c.core), short(got), c.code)
		}
		if got := impl.SlotsOf(c.core); got != (impl.IntResult{Code: c.code}) {
			t.Errorf("%s: %v, want %d", short(c.core), got, c.code)
		}
	}
	for text, one := range oneCoreOfEach() {
		if got := impl.CoreFault(one.nodes()); got != 0 {
			t.Errorf("%s: %d", text, got)
		}
	}
	for _, v := range sound() {
		if got := impl.CoreFault([]core{{Op: impl.CoreConst, Val: v}}); got != 0 {
			t.Errorf("%s: %d", short(v), got)
		}
		want := int64(impl.ErrKind)
		if v[0].Kind == impl.KindString {
			want = 0
		}
		if got := impl.CoreFault([]core{{Op: impl.CoreSelf}, {Op: impl.CoreSelf}, {Op: impl.CoreMember, B: 1, Val: v}}); got != want {
			t.Errorf("%s: %d, want %d", short(v), got, want)
		}
	}
}

// changedCores are the cores with one field of one node changed.
func changedCores(list []core, do func([]core)) {
	change := func(at int, set func(c *core)) {
		changed := slices.Clone(list)
		set(&changed[at])
		do(changed)
	}
	for at := range list {
		for op := int64(-1); op <= 19; op++ {
			change(at, func(c *core) { c.Op = op })
		}
		for _, link := range []int64{math.MinInt64, -1, 0, 1, 2, int64(at), math.MaxInt64} {
			change(at, func(c *core) { c.A = link })
			change(at, func(c *core) { c.B = link })
			change(at, func(c *core) { c.C = link })
		}
		for _, num := range []int64{math.MinInt64, -1, 0, 1, 7, 8, 9, 11, 12, 59, 60, math.MaxInt64} {
			change(at, func(c *core) { c.Num = num })
		}
		for _, v := range []cells{nil, {}, null(), str("k"), str("\n"), num(impl.MaxNumber + 1), arr(str("k")), slices.Concat(str("k"), str("k")), member("k", str("k"))} {
			change(at, func(c *core) { c.Val = v })
		}
	}
}

func checkCoreFault(t *testing.T, list []core) {
	if got, want := impl.CoreFault(list), modelCoreFault(list); got != want {
		t.Fatalf("%v: %d, want %d", list, got, want)
	}
}

// Two fields are changed, in one node and in two, so that it is seen which code
// comes first.
func TestCoreFaultAgainstModel(t *testing.T) {
	for text, one := range oneCoreOfEach() {
		t.Run(text, func(t *testing.T) {
			t.Parallel()
			changedCores(one.nodes(), func(list []core) {
				checkCoreFault(t, list)
				if len(list) < 4 {
					changedCores(list, func(list []core) { checkCoreFault(t, list) })
				}
			})
		})
	}
}

// All short lists of nodes that name others, ahead of them or not.
func TestCoreOrderAgainstModel(t *testing.T) {
	pool := []core{{Op: impl.CoreSelf}, {Op: impl.CoreVar, Num: 1}, {Op: impl.CoreIf, A: 0, B: 1, C: 2}, {Op: impl.CoreIf, A: 0, B: 2, C: 1}, {Op: impl.CoreReduce, A: 0, B: 1, C: 2, Num: 1}, {Op: impl.CoreReduce, A: 0, B: 1, C: 3, Num: 1}}
	for a := int64(0); a < 4; a++ {
		pool = append(pool, core{Op: impl.CoreEach, A: a})
		for b := int64(0); b < 4; b++ {
			pool = append(pool, core{Op: impl.CoreComma, A: a, B: b}, core{Op: impl.CoreAs, A: a, B: b, Num: 1})
		}
	}
	var lists func(before []core, n int)
	lists = func(before []core, n int) {
		checkCoreFault(t, before)
		for i := 0; n > 0 && i < len(pool); i++ {
			lists(append(slices.Clone(before), pool[i]), n-1)
		}
	}
	lists(nil, 3)
	lists([]core{{Op: impl.CoreSelf}, {Op: impl.CoreVar, Num: 1}}, 3)
	lists([]core{{Op: impl.CoreSelf}, {Op: impl.CoreSelf}, {Op: impl.CoreVar, Num: 1}}, 2)
}

// smallCores are all of that many nodes with these heads.
func smallCores(heads []*twig, size int) []*twig {
	bySize := [][]*twig{nil}
	for n := 1; n <= size; n++ {
		var list []*twig
		for _, head := range heads {
			for _, kids := range twigLists(bySize, coreKids(head.op), n-1) {
				list = append(list, &twig{head.op, head.num, head.val, kids})
			}
		}
		bySize = append(bySize, list)
	}
	return bySize[size]
}

// twigLists are all lists of that many twigs with that many nodes in all.
func twigLists(bySize [][]*twig, kids, nodes int) [][]*twig {
	if kids == 0 && nodes == 0 {
		return [][]*twig{nil}
	}
	var lists [][]*twig
	for first := 1; kids > 0 && first <= nodes; first++ {
		for _, rest := range twigLists(bySize, kids-1, nodes-first) {
			for _, kid := range bySize[first] {
				lists = append(lists, append([]*twig{kid}, rest...))
			}
		}
	}
	return lists
}

// A slot is bound in B of an as and in C of a reduce, and nowhere else; what is
// about a variable need not have the slots in order.
func TestCoreSlotsAgainstModel(t *testing.T) {
	heads := []*twig{tw(impl.CoreVar), tw(impl.CoreVar).numbered(1), tw(impl.CoreAs), tw(impl.CoreAs).numbered(1), tw(impl.CoreReduce), tw(impl.CoreTry)}
	faults := map[int64]int{}
	for size := 1; size <= 7; size++ {
		for _, w := range smallCores(append(heads, tw(impl.CoreSelf)), size) {
			list := w.nodes()
			got, want := impl.CoreFault(list), modelCoreFault(list)
			if got != want {
				t.Fatalf("%s: %d, want %d", w, got, want)
			}
			faults[got]++
			slots := impl.IntResult{Code: got}
			for _, c := range list {
				if got == 0 && slices.Contains([]int64{13, 14, 15}, c.Op) {
					slots.Value = max(slots.Value, c.Num+1)
				}
			}
			if got := impl.SlotsOf(list); got != slots {
				t.Fatalf("%s: %v, want %v", w, got, slots)
			}
		}
	}
	if len(faults) != 2 || faults[0] < 1000 || faults[impl.ErrNone] < 1000 {
		t.Error(faults)
	}
}

func TestCoreSlotsAreBound(t *testing.T) {
	self, x := tw(impl.CoreSelf), tw(impl.CoreVar).numbered(5)
	as := func(slot int64, a, b *twig) *twig { return tw(impl.CoreAs, a, b).numbered(slot) }
	reduce := func(slot int64, a, b, c *twig) *twig { return tw(impl.CoreReduce, a, b, c).numbered(slot) }
	bound := []*twig{as(5, self, x), reduce(5, self, self, x), as(5, self, as(5, x, x)), as(5, self, as(4, x, x)), as(4, self, as(5, self, x)), as(5, self, reduce(4, x, x, x)), as(5, self, tw(impl.CoreIf, x, x, x)), reduce(5, self, self, tw(impl.CoreList, tw(impl.CoreEach, x))), as(59, self, as(5, self, x)), as(5, as(5, self, x), x)}
	for _, w := range bound {
		if got := impl.CoreFault(w.nodes()); got != 0 {
			t.Errorf("%s: %d", w, got)
		}
	}
	unbound := []*twig{x, as(5, x, self), as(4, self, x), as(6, self, x), as(0, self, x), reduce(5, x, self, self), reduce(5, self, x, self), reduce(4, self, self, x), tw(impl.CorePipe, as(5, self, self), x), tw(impl.CorePipe, x, as(5, self, x)), tw(impl.CoreComma, reduce(5, self, self, x), x), as(4, as(5, self, x), x), as(5, x, x), reduce(5, self, x, x), as(4, self, as(5, x, x))}
	for _, w := range unbound {
		if got := impl.CoreFault(w.nodes()); got != impl.ErrNone {
			t.Errorf("%s: %d", w, got)
		}
	}
}

func TestSlotsOf(t *testing.T) {
	self := tw(impl.CoreSelf)
	as := func(slot int64, a, b *twig) *twig { return tw(impl.CoreAs, a, b).numbered(slot) }
	reduce := func(slot int64, a, b, c *twig) *twig { return tw(impl.CoreReduce, a, b, c).numbered(slot) }
	cases := []struct {
		w    *twig
		want int64
	}{
		{self, 0}, {tw(impl.CoreDo).numbered(8), 0}, {tw(impl.CoreBin, self, self).numbered(11), 0}, {tw(impl.CoreConst).valued(num(7)), 0},
		{as(0, self, self), 1}, {reduce(0, self, self, self), 1}, {as(5, self, self), 6}, {reduce(59, self, self, self), 60}, {as(59, self, self), 60}, {as(59, self, tw(impl.CoreVar).numbered(59)), 60}, {as(0, self, tw(impl.CoreDo).numbered(8)), 1},
		{as(0, self, as(1, self, self)), 2}, {as(1, self, as(0, self, self)), 2}, {as(7, self, as(3, self, self)), 8}, {as(3, as(7, self, self), self), 8}, {reduce(3, as(7, self, self), self, self), 8}, {reduce(3, self, as(7, self, self), self), 8}, {reduce(3, self, self, as(7, self, self)), 8}, {tw(impl.CoreComma, as(2, self, self), reduce(1, self, self, self)), 3}, {tw(impl.CoreComma, as(1, self, self), reduce(2, self, self, self)), 3},
	}
	for _, c := range cases {
		if got := impl.SlotsOf(c.w.nodes()); got != (impl.IntResult{Value: c.want}) {
			t.Errorf("%s: %v, want %d", c.w, got, c.want)
		}
	}
	programs := map[string]int64{".": 0, ". as $x | 1": 1, ". as $x | . as $y | 1": 2, "(. as $x | 1) , (. as $y | 2)": 1, "reduce . as $x (. as $y | 1; . as $z | 2)": 2, ". as $x | (. as $y | 1) as $z | . as $w | 1": 3, "map(range(length))": 0}
	for text, want := range programs {
		if got := impl.SlotsOf(impl.LowerTree(treeOf(text)).Core); got != (impl.IntResult{Value: want}) {
			t.Errorf("%s: %v, want %d", text, got, want)
		}
	}
}

// callAllCores is what all functions of the chapter answer to these arguments.
func callAllCores(list []core, tree []node, do int64, v cells) []any {
	return []any{impl.CoreFault(list), impl.LowerTree(tree), impl.LowerTree(tree), impl.DoNative(do, v), impl.DeepOf(v), impl.CoreText(list), impl.SlotsOf(list)}
}

func cloneCore(list []core) []core {
	clone := slices.Clone(list)
	for i := range clone {
		clone[i].Val = slices.Clone(clone[i].Val)
	}
	return clone
}

// coresOfEveryKind are lists of core nodes of every op and of none.
func coresOfEveryKind() [][]core {
	var lists [][]core
	for _, c := range faultyCores() {
		lists = append(lists, c.core)
	}
	for _, one := range oneCoreOfEach() {
		lists = append(lists, one.nodes())
	}
	for op := int64(-1); op < 20; op++ {
		for _, c := range []core{{Op: op}, {Op: op, A: 1, B: 2, C: 3, Num: 4, Val: null()}, {Op: op, B: 1, C: 2, Num: 1, Val: str("k")}, {Op: op, A: math.MinInt64, B: math.MaxInt64, C: -1, Num: math.MinInt64, Val: str(strings.Repeat("\xff", 1000))}} {
			lists = append(lists, []core{c}, slices.Repeat([]core{c}, 900), slices.Repeat([]core{c}, 901), []core{{Op: 1}, {Op: 1}, {Op: 1}, c})
		}
	}
	// Each node names the one ahead of it twice, and that again.
	doubled := []core{{Op: impl.CoreSelf}}
	for at := int64(0); len(doubled) < 900; at++ {
		doubled = append(doubled, core{Op: impl.CorePipe, A: at, B: at})
	}
	deep := grownCore(tw(impl.CoreEach), 900)[0].nodes()
	deepVar := tw(impl.CoreAs, tw(impl.CoreSelf), tw(impl.CoreVar))
	for range 298 {
		deepVar = tw(impl.CoreReduce, tw(impl.CoreSelf), deepVar, tw(impl.CoreVar))
	}
	return append(lists, doubled, deep, deepVar.nodes(), wideCore(450).nodes(), wideCore(451).nodes())
}

// P1 of this chapter.
func TestCoresArgumentsStayAndAnswersAreNew(t *testing.T) {
	var trees [][]node
	for _, c := range faultyTrees() {
		trees = append(trees, c.tree)
	}
	for _, one := range oneOfEach() {
		trees = append(trees, one.nodes())
	}
	for _, text := range []string{"1 or 2 and 3", "not", "map(not)", "select(..)", "range(3) | [] , {} , null , false , true", `{a:"x",b:"x"}`, ". as $x | . as $x | reduce $x as $y ($x; $x + $y)"} {
		trees = append(trees, treeOf(text))
	}
	values := slices.Concat(sound(), faults())
	lists := coresOfEveryKind()
	for i := range max(len(trees), len(values), len(lists)) {
		list, tree, v := lists[i%len(lists)], trees[i%len(trees)], values[i%len(values)]
		do := int64(i%12) - 1
		keptList, keptTree, keptV := cloneCore(list), slices.Clone(tree), slices.Clone(v)
		first := callAllCores(list, tree, do, v)
		checkApart(t, first, list, tree, v)
		second := callAllCores(list, tree, do, v)
		if !reflect.DeepEqual(first, second) {
			t.Errorf("%s, %s, %d, %s: %s, then %s", short(list), short(tree), do, short(v), short(first), short(second))
		}
		scribble(first)
		if !sameCores(list, keptList) || !slices.Equal(tree, keptTree) || !slices.Equal(v, keptV) {
			t.Errorf("%s, %s or %s is changed", short(keptList), short(keptTree), short(keptV))
		}
		roomy := append(make(cells, 0, len(v)+3), v...)
		roomyList := append(make([]core, 0, len(list)+3), list...)
		if third := callAllCores(roomyList, append(make([]node, 0, len(tree)+3), tree...), do, roomy); !reflect.DeepEqual(second, third) || slices.ContainsFunc(roomy[:cap(roomy)][len(roomy):], func(c impl.Cell) bool { return c != impl.Cell{} }) {
			t.Errorf("%s, %s, %d, %s: %s, then %s", short(list), short(tree), do, short(v), short(second), short(third))
		}
	}
	if !reflect.DeepEqual(callAllCores(nil, nil, 0, nil), callAllCores([]core{}, []node{}, 0, cells{})) {
		t.Error("nil and an empty list are told apart")
	}
	without := []core{{Op: impl.CoreSelf, Val: cells{}}}
	if got := impl.CoreText(without); impl.CoreFault(without) != 0 || got != (impl.TextResult{Text: "0 1 0 0 0 0 -\n"}) {
		t.Error(got)
	}
}
