package tests

import (
	"math"
	"reflect"
	"slices"
	"strconv"
	"strings"
	"testing"

	"loop.example/g00166/impl"
)

// checkCode holds what is told of code against the model.
func checkCode(t *testing.T, ins []in, regs int64) {
	t.Helper()
	want := modelCodeFault(ins, regs)
	if got := impl.CodeFault(ins, regs); !reflect.DeepEqual(got, impl.CodeResult{Code: want.code, At: want.at}) {
		t.Fatalf("%s with %d: %s, want %v", short(codeAs(ins)), regs, short(got), want)
	}
	heights, targets, text := impl.HeightsOf(ins, regs), impl.TargetsOf(ins, regs), impl.CodeText(ins, regs)
	if want.code != 0 {
		if len(heights.List)+len(targets.List)+len(text.Text) > 0 || heights.Code != want.code || targets.Code != want.code || text.Code != want.code {
			t.Fatalf("%s with %d: %s, %s, %s, want %d", short(codeAs(ins)), regs, short(heights), short(targets), short(text), want.code)
		}
		return
	}
	if list, _ := modelHeights(ins); heights.Code != 0 || !slices.Equal(heights.List, list) {
		t.Fatalf("%s with %d: heights %s, want %s", short(codeAs(ins)), regs, short(heights), short(list))
	}
	if list := modelTargets(ins); targets.Code != 0 || !slices.Equal(targets.List, list) {
		t.Fatalf("%s with %d: targets %s, want %s", short(codeAs(ins)), regs, short(targets), short(list))
	}
	if want := modelCodeText(ins); text.Code != 0 || text.Text != want {
		t.Fatalf("%s with %d: %s, want %s", short(codeAs(ins)), regs, text.Text, want)
	}
}

// faultyCode is code with a fault, told by hand.
type faultyCode struct {
	ins  []in
	regs int64
	fault
}

// longCode is code of as many instructions as n that has no fault.
func longCode(n int) []in {
	return append(slices.Repeat([]in{{Op: impl.InDup}}, n-1), in{Op: impl.InEmit})
}

func faultyCodes() []faultyCode {
	emit, kind := in{Op: impl.InEmit}, in{Op: 20}
	form, text, wide := in{Op: impl.InDup, Arg: 1}, in{Op: impl.InPush, Val: str("\n")}, in{Op: impl.InDo, Arg: 9}
	swap := in{Op: impl.InSwap}
	at := func(place int64, ins ...in) []in {
		return append(slices.Repeat([]in{{Op: impl.InDup}}, int(place)), ins...)
	}
	list := []faultyCode{
		// How many registers, and then how many instructions.
		{nil, -1, fault{impl.ErrRange, 0}}, {nil, 1001, fault{impl.ErrRange, 0}}, {longCode(6001), 1001, fault{impl.ErrRange, 0}}, {[]in{kind}, math.MinInt64, fault{impl.ErrRange, 0}}, {[]in{emit}, math.MaxInt64, fault{impl.ErrRange, 0}}, {[]in{emit, kind}, -1, fault{impl.ErrRange, 0}},
		{nil, 0, fault{impl.ErrMany, 0}}, {[]in{}, 1000, fault{impl.ErrMany, 0}}, {longCode(6001), 0, fault{impl.ErrMany, 0}}, {slices.Repeat([]in{kind}, 6001), 1000, fault{impl.ErrMany, 0}}, {slices.Repeat([]in{kind}, 100000), 1, fault{impl.ErrMany, 0}}, {append(longCode(6000)[:5999:5999], kind), 0, fault{impl.ErrKind, 5999}},
		// One instruction by itself.
		{[]in{{}}, 0, fault{impl.ErrKind, 0}}, {[]in{{Op: -1}, emit}, 0, fault{impl.ErrKind, 0}}, {[]in{emit, kind}, 0, fault{impl.ErrKind, 1}}, {[]in{{Op: math.MinInt64}}, 0, fault{impl.ErrKind, 0}}, {[]in{{Op: math.MaxInt64}}, 0, fault{impl.ErrKind, 0}}, {[]in{{Op: 20, Arg: 1, Val: str("\n")}}, 0, fault{impl.ErrKind, 0}},
		{at(1, in{Op: impl.InEmit, Arg: 1}), 1, fault{impl.ErrForm, 1}}, {at(2, in{Op: impl.InBack, Arg: -1}), 1, fault{impl.ErrForm, 2}}, {at(0, in{Op: impl.InPush, Arg: 1, Val: null()}, emit), 1, fault{impl.ErrForm, 0}}, {at(0, in{Op: impl.InPush, Arg: 1}, emit), 1, fault{impl.ErrForm, 0}}, {at(1, in{Op: impl.InMember, Arg: 1, Val: num(1)}, emit), 1, fault{impl.ErrForm, 1}}, {at(0, in{Op: impl.InJump, Arg: 1, Val: null()}, emit), 0, fault{impl.ErrForm, 0}}, {at(0, in{Op: impl.InJump, Arg: 9, Val: null()}, emit), 0, fault{impl.ErrForm, 0}}, {at(0, in{Op: impl.InStore, Arg: 9, Val: null()}, emit), 0, fault{impl.ErrForm, 0}}, {at(0, in{Op: impl.InDo, Arg: 1, Val: null()}, emit), 0, fault{impl.ErrForm, 0}}, {at(1, in{Op: impl.InBin, Arg: 0, Val: null()}, emit), 0, fault{impl.ErrForm, 1}},
		{at(0, in{Op: impl.InPush}, emit), 0, fault{impl.ErrMany, 0}}, {at(1, in{Op: impl.InMember}, emit), 0, fault{impl.ErrMany, 1}}, {at(3, text, emit), 0, fault{impl.ErrText, 3}}, {at(1, in{Op: impl.InMember, Val: str("\n")}, emit), 0, fault{impl.ErrText, 1}}, {at(1, in{Op: impl.InMember, Val: null()}, emit), 0, fault{impl.ErrKind, 1}}, {at(1, in{Op: impl.InMember, Val: arr(str("k"))}, emit), 0, fault{impl.ErrKind, 1}},
		{at(1, in{Op: impl.InBin}, emit), 0, fault{impl.ErrRange, 1}}, {at(1, in{Op: impl.InBin, Arg: 12}, emit), 0, fault{impl.ErrRange, 1}}, {at(1, in{Op: impl.InBin, Arg: -1}, emit), 0, fault{impl.ErrRange, 1}}, {at(0, in{Op: impl.InDo}, emit), 0, fault{impl.ErrRange, 0}}, {at(0, wide, emit), 0, fault{impl.ErrRange, 0}}, {at(0, in{Op: impl.InStore}, emit), 0, fault{impl.ErrRange, 0}}, {at(2, in{Op: impl.InLoad, Arg: 3}, emit), 3, fault{impl.ErrRange, 2}}, {at(2, in{Op: impl.InAppend, Arg: -1}, emit), 3, fault{impl.ErrRange, 2}}, {at(2, in{Op: impl.InLoad, Arg: 1000}, emit), 1000, fault{impl.ErrRange, 2}},
		// Instruction by instruction, and within one: kind, form, value, range.
		{[]in{kind, form, text, wide}, 0, fault{impl.ErrKind, 0}}, {[]in{form, kind, text, wide}, 0, fault{impl.ErrForm, 0}}, {[]in{text, kind, form, wide}, 0, fault{impl.ErrText, 0}}, {[]in{wide, kind, form, text}, 0, fault{impl.ErrRange, 0}}, {[]in{emit, emit, wide, kind}, 0, fault{impl.ErrRange, 2}},
		// All of that ahead of heights, and of what no height is laid at, too.
		{[]in{swap, swap, kind}, 0, fault{impl.ErrKind, 2}}, {[]in{swap, emit, wide}, 0, fault{impl.ErrRange, 2}}, {[]in{{Op: impl.InBack}, form}, 0, fault{impl.ErrForm, 1}}, {[]in{{Op: impl.InBack}, {Op: impl.InStore}}, 0, fault{impl.ErrRange, 1}}, {[]in{{Op: impl.InBack}, {Op: impl.InJump, Arg: 2}}, 0, fault{impl.ErrRange, 1}},
	}
	for _, op := range []int64{impl.InJump, impl.InUnless, impl.InFork, impl.InTry, impl.InAlt} {
		// At its own place, ahead of it, above the last.
		for _, arg := range []int64{2, 1, 0, -1, 4, 5, math.MinInt64, math.MaxInt64} {
			list = append(list, faultyCode{at(2, in{Op: op, Arg: arg}, emit), 0, fault{impl.ErrRange, 2}})
		}
		list = append(list, faultyCode{at(2, in{Op: op, Arg: 3}), 0, fault{impl.ErrRange, 2}})
	}
	for _, c := range faulty() {
		list = append(list, faultyCode{at(1, in{Op: impl.InPush, Val: c.v}, emit), 0, fault{c.code, 1}}, faultyCode{at(1, in{Op: impl.InMember, Val: c.v}, emit), 0, fault{c.code, 1}})
	}
	for _, c := range heightCases() {
		if place, is := strings.CutPrefix(c.want, "!"); is {
			at, _ := strconv.ParseInt(place, 10, 64)
			list = append(list, faultyCode{readCode(c.ins), 2, fault{impl.ErrCode, at}})
		}
	}
	return list
}

type heightCase struct{ ins, want string }

// heightCases has code with its heights, or "!" and the place at which they cannot
// be told.
func heightCases() []heightCase {
	return []heightCase{
		{"emit", "1"}, {"back", "1"}, {"dup; emit", "1 2"}, {"dup; dup; back", "1 2 3"}, {"pop; back", "1 0"}, {"pop; push 1; emit", "1 0 1"}, {"push 1; emit", "1 2"}, {"push 1; swap; emit", "1 2 2"}, {"dup; bin 1; emit", "1 2 1"}, {"dup; at; emit", "1 2 1"}, {`dup; member "k"; emit`, "1 2 1"}, {"each; emit", "1 1"}, {"do 1; emit", "1 1"}, {"store 0; load 1; emit", "1 0 1"}, {"append 0; back", "1 0"},
		{"jump 1; emit", "1 1"}, {"unless 1; back", "1 0"}, {"fork 1; emit", "1 1"}, {"try 1; emit", "1 1"}, {"alt 1; emit", "1 1"}, {"dup; swap; pop; push \"a\"; at; emit", "1 2 2 1 2 1"},
		// More are taken than there are.
		{"pop; emit", "!1"}, {"pop; pop; emit", "!1"}, {"pop; dup; emit", "!1"}, {"swap; emit", "!0"}, {"bin 1; emit", "!0"}, {"at; emit", "!0"}, {`member "k"; emit`, "!0"}, {"pop; each; emit", "!1"}, {"pop; do 1; emit", "!1"}, {"pop; unless 2; back", "!1"}, {"pop; store 0; back", "!1"}, {"pop; append 0; back", "!1"}, {"pop; push 1; swap; emit", "!2"}, {"pop; push 1; bin 1; emit", "!2"}, {"unless 2; back; emit", "!2"}, {"fork 3; pop; back; swap; emit", "!3"}, {"unless 1; emit", "!1"},
		// The last is neither emit nor back.
		{"dup", "!0"}, {"pop", "!0"}, {"push 1", "!0"}, {"each", "!0"}, {"do 8", "!0"}, {"store 0", "!0"}, {"load 0", "!0"}, {"append 1", "!0"}, {"swap", "!0"}, {"dup; swap", "!1"}, {"dup; bin 11", "!1"}, {"dup; at", "!1"}, {`dup; member ""`, "!1"}, {"fork 1; dup", "!1"}, {"jump 2; emit; dup", "!2"}, {"fork 2; back; pop", "!2"}, {"pop; dup", "!1"},
		// Another height is laid there already: by the next one, or by Arg.
		{"fork 2; dup; emit", "!1"}, {"fork 2; pop; back", "!1"}, {"unless 2; push 1; back", "!1"}, {"dup; unless 3; pop; back", "!2"}, {"fork 3; dup; jump 3; emit", "!2"}, {"fork 3; dup; fork 3; emit", "!2"}, {"try 3; dup; try 3; emit", "!2"}, {"alt 3; dup; alt 3; emit", "!2"}, {"fork 3; dup; unless 3; emit", "1 1 2 1"}, {"fork 2; unless 2; emit", "!1"}, {"fork 4; fork 3; dup; emit; emit", "!2"}, {"fork 4; dup; jump 4; emit; back", "!2"}, {"fork 5; fork 5; push 1; pop; dup; emit", "!4"}, {"fork 3; push 1; jump 4; jump 4; emit", "!3"},
		// The first of several.
		{"fork 2; dup; swap", "!1"}, {"pop; pop; pop", "!1"}, {"swap; dup", "!0"},
		// The same height twice.
		{"fork 3; dup; pop; emit", "1 1 2 1"}, {"fork 3; jump 4; emit; jump 4; emit", "1 1 -1 1 1"}, {"dup; unless 4; do 1; jump 5; do 2; emit", "1 2 1 1 1 1"}, {"fork 2; fork 2; emit", "1 1 1"},
		// Those that no height is laid at are not asked, the last one neither.
		{"back; emit", "1 -1"}, {"back; pop", "1 -1"}, {"emit; dup", "1 -1"}, {"back; swap; bin 1; dup", "1 -1 -1 -1"}, {"jump 3; swap; bin 1; emit", "1 -1 -1 1"}, {"jump 2; pop; emit", "1 -1 1"}, {"emit; jump 3; swap; load 1", "1 -1 -1 -1"}, {"back; fork 3; dup; pop", "1 -1 -1 -1"}, {"pop; back; emit", "1 0 -1"}, {"jump 3; dup; jump 3; emit", "1 -1 -1 1"}, {"fork 3; back; dup; emit", "1 1 -1 1"}, {"pop; jump 3; swap; back", "1 0 -1 0"},
	}
}

func TestHeightsOf(t *testing.T) {
	for _, c := range heightCases() {
		ins := readCode(c.ins)
		got := impl.HeightsOf(ins, 2)
		var words []string
		for _, height := range got.List {
			words = append(words, strconv.FormatInt(height, 10))
		}
		if place, is := strings.CutPrefix(c.want, "!"); is {
			fault := impl.CodeFault(ins, 2)
			if fault.Code != impl.ErrCode || strconv.FormatInt(fault.At, 10) != place || got.Code != impl.ErrCode || len(words) > 0 {
				t.Errorf("%s: %v, %v, want %s", c.ins, fault, got, c.want)
			}
		} else if got.Code != 0 || strings.Join(words, " ") != c.want {
			t.Errorf("%s: %v, want %s", c.ins, got, c.want)
		}
		checkCode(t, ins, 2)
	}
	// Heights have no bound.
	got := impl.HeightsOf(longCode(6000), 0)
	if len(got.List) != 6000 || got.List[0] != 1 || got.List[5999] != 6000 {
		t.Error(short(got))
	}
	// From the first instruction to the last one.
	far := append(slices.Repeat([]in{{Op: impl.InPush, Val: null()}}, 5998), in{Op: impl.InBack})
	for _, op := range []int64{impl.InJump, impl.InFork, impl.InTry, impl.InAlt} {
		checkCode(t, append([]in{{Op: op, Arg: 5999}}, far...), 0)
	}
	got = impl.HeightsOf(append([]in{{Op: impl.InJump, Arg: 5999}}, far...), 0)
	if len(got.List) != 6000 || got.List[1] != -1 || got.List[5998] != -1 || got.List[5999] != 1 {
		t.Error(short(got))
	}
	if fault := impl.CodeFault(append([]in{{Op: impl.InFork, Arg: 5999}}, far...), 0); fault.Code != impl.ErrCode || fault.At != 5998 {
		t.Error(fault)
	}
}

func TestCodeFault(t *testing.T) {
	for _, c := range faultyCodes() {
		if got := impl.CodeFault(c.ins, c.regs); !reflect.DeepEqual(got, impl.CodeResult{Code: c.code, At: c.at}) {
			t.Errorf("%s with %d: %s, want %v", short(codeAs(c.ins)), c.regs, short(got), c.fault)
		}
		if got := modelCodeFault(c.ins, c.regs); got != c.fault {
			t.Errorf("%s with %d: the model has %v, want %v", short(codeAs(c.ins)), c.regs, got, c.fault)
		}
		checkCode(t, c.ins, c.regs)
	}
	// How many registers there may be, and how many instructions.
	for _, regs := range []int64{0, 1, 999, 1000} {
		for _, n := range []int{1, 2, 5999, 6000} {
			checkCode(t, longCode(n), regs)
			if got := impl.CodeFault(longCode(n), regs); !reflect.DeepEqual(got, impl.CodeResult{}) {
				t.Errorf("%d with %d: %v", n, regs, got)
			}
		}
	}
	for _, regs := range []int64{1, 2, 1000} {
		for _, op := range []int64{impl.InStore, impl.InLoad, impl.InAppend} {
			for arg := int64(-1); arg <= regs+1; arg += max(1, regs/4) {
				checkCode(t, []in{{Op: op, Arg: arg}, {Op: impl.InBack}}, regs)
			}
			if got := impl.CodeFault([]in{{Op: op, Arg: regs - 1}, {Op: impl.InBack}}, regs); got.Code != 0 {
				t.Errorf("%d with %d: %v", op, regs, got)
			}
		}
	}
	for _, v := range sound() {
		checkCode(t, []in{{Op: impl.InPush, Val: v}, {Op: impl.InEmit}}, 0)
		checkCode(t, []in{{Op: impl.InDup}, {Op: impl.InMember, Val: v}, {Op: impl.InEmit}}, 0)
	}
}

// One instruction has every Op, Arg and Val, and perhaps the one behind it is
// wrong, too.
func TestCodeFaultAgainstModel(t *testing.T) {
	args := []int64{math.MinInt64, -1, 0, 1, 2, 3, 4, 5, 7, 8, 9, 10, 11, 12, 999, 1000, math.MaxInt64}
	vals := []cells{nil, {}, null(), str("k"), str("\n"), num(impl.MaxNumber + 1), arr(str("k")), slices.Concat(str("k"), str("k")), member("k", str("k"))}
	wrong := []in{{Op: 20}, {Op: impl.InDup, Arg: 1}, {Op: impl.InPush}, {Op: impl.InDo}, {Op: impl.InSwap}}
	for _, base := range []string{"dup; dup; dup; emit", "pop; push 1; dup; back", "jump 3; dup; dup; emit"} {
		for at := range 4 {
			for op := int64(-1); op <= 20; op++ {
				for _, arg := range args {
					for _, v := range vals {
						ins := readCode(base)
						ins[at] = in{Op: op, Arg: arg, Val: v}
						for _, regs := range []int64{-1, 0, 1, 1000, 1001} {
							checkCode(t, ins, regs)
						}
						if v == nil {
							other := slices.Clone(ins)
							other[(at+1)%4] = wrong[int(uint64(op+arg)%5)]
							checkCode(t, other, 2)
						}
					}
				}
			}
		}
	}
}

// All short code of these instructions.
func TestShortCodeAgainstModel(t *testing.T) {
	sets := map[string]struct {
		words string
		size  int
	}{
		"each kind": {`dup pop push=1 swap bin=1 at each do=1 member="k" jump unless fork try alt back store=0 load=1 append=0 emit`, 3},
		"jumps":     {"dup pop jump unless fork back emit", 5},
		"stack":     {"dup pop swap bin=2 unless alt emit", 5},
	}
	for name, set := range sets {
		t.Run(name, func(t *testing.T) {
			t.Parallel()
			faults := map[int64]int{}
			for size := 1; size <= set.size; size++ {
				shortCode(strings.Fields(set.words), size, nil, func(ins []in) {
					checkCode(t, ins, 2)
					faults[modelCodeFault(ins, 2).code]++
				})
			}
			if len(faults) != 3 || faults[0] < 100 || faults[impl.ErrCode] < 1000 || faults[impl.ErrRange] == 0 {
				t.Error(faults)
			}
		})
	}
}

// shortCode goes through all code of that many instructions; those that go
// somewhere go to each place behind them and, if there is none, to their own.
func shortCode(words []string, size int, ahead []in, do func([]in)) {
	if len(ahead) == size {
		do(ahead)
		return
	}
	for _, word := range words {
		one := readCode(strings.Replace(word+strings.Repeat(" 0", goesSomewhere(word)), "=", " ", 1))[0]
		places := 1
		if goesSomewhere(word) == 1 {
			places = max(1, size-1-len(ahead))
			one.Arg = int64(min(len(ahead)+1, size-1))
		}
		for range places {
			shortCode(words, size, append(slices.Clone(ahead), one), do)
			one.Arg++
		}
	}
}

func goesSomewhere(word string) int {
	if slices.Contains([]string{"jump", "unless", "fork", "try", "alt"}, word) {
		return 1
	}
	return 0
}

// Heights agree with where an instruction may go on, and are told of all that can
// be come to and of nothing else.
func TestHeightsOfCompiledCode(t *testing.T) {
	for _, c := range meanTexts() {
		r := impl.CompileCore(impl.LowerTree(treeOf(c.program)).Core)
		heights := impl.HeightsOf(r.Ins, r.Regs).List
		met := map[int64]bool{}
		var walk func(at int64)
		walk = func(at int64) {
			if met[at] {
				return
			}
			met[at] = true
			row := modelIns[r.Ins[at].Op]
			for _, way := range row.goes {
				place := map[rune]int64{'n': at + 1, 'a': r.Ins[at].Arg}[way]
				if heights[place] != heights[at]-row.takes+row.lays {
					t.Errorf("%s: %v at %d and %d", c.program, heights, at, place)
				}
				walk(place)
			}
		}
		walk(0)
		for at := range int64(len(r.Ins)) {
			if met[at] != (heights[at] >= 0) || met[at] && heights[at] < modelIns[r.Ins[at].Op].takes {
				t.Errorf("%s: %v at %d", c.program, heights, at)
			}
		}
		// What is emitted is all that there is.
		if last := int64(len(r.Ins)) - 1; met[last] && heights[last] != 1 {
			t.Errorf("%s: %v", c.program, heights)
		}
	}
}

func TestTargetsOf(t *testing.T) {
	cases := map[string][]int64{
		"emit": nil, "dup; pop; push 1; emit": nil, "jump 1; emit": {1}, "unless 1; back": {1}, "fork 1; emit": {1}, "try 1; emit": {1}, "alt 1; emit": {1},
		"fork 2; fork 2; emit": {2}, "fork 3; fork 2; jump 3; emit": {2, 3}, "jump 3; dup; jump 3; emit": {3}, "fork 4; fork 3; fork 4; jump 4; emit": {3, 4}, "fork 2; jump 4; try 3; alt 4; emit": {2, 3, 4},
		// What is never done has its Arg, too.
		"back; jump 3; dup; emit": {3}, "emit; unless 2; back": {2},
		// Registers, ops and dos are no places.
		"dup; bin 2; do 2; store 1; load 1; emit": nil, "dup; append 1; load 1; jump 4; emit": {4},
	}
	for text, want := range cases {
		if got := impl.TargetsOf(readCode(text), 2); got.Code != 0 || !slices.Equal(got.List, want) {
			t.Errorf("%s: %v, want %v", text, got, want)
		}
		checkCode(t, readCode(text), 2)
	}
	// Many, those that are told last being the first ones.
	var ins []in
	for at := range int64(3000) {
		ins = append(ins, in{Op: impl.InFork, Arg: 5999 - at})
	}
	ins = append(ins, slices.Repeat([]in{{Op: impl.InBack}}, 3000)...)
	got := impl.TargetsOf(ins, 0)
	if len(got.List) != 3000 || got.List[0] != 3000 || got.List[2999] != 5999 || !slices.IsSorted(got.List) {
		t.Error(short(got))
	}
}

func TestCodeText(t *testing.T) {
	cases := map[string]string{
		"emit": "0 emit\n", "dup; pop; emit": "0 dup\n1 pop\n2 emit\n", `push {"a":[1,"\"\\"]}; back`: "0 push {\"a\":[1,\"\\\"\\\\\"]}\n1 back\n", "push null; swap; bin 11; emit": "0 push null\n1 swap\n2 bin 11\n3 emit\n", `dup; at; each; do 8; dup; member ""; emit`: "0 dup\n1 at\n2 each\n3 do 8\n4 dup\n5 member \"\"\n6 emit\n",
		"jump 1; dup; unless 3; fork 4; try 5; alt 6; back": "0 jump 1\n1 dup\n2 unless 3\n3 fork 4\n4 try 5\n5 alt 6\n6 back\n", "store 0; load 1; append 0; back": "0 store 0\n1 load 1\n2 append 0\n3 back\n", `dup; member "k"; emit`: "0 dup\n1 member \"k\"\n2 emit\n",
	}
	met := map[string]bool{}
	for ins, want := range cases {
		if got := impl.CodeText(readCode(ins), 2); got != (impl.TextResult{Text: want}) {
			t.Errorf("%s: %v, want %s", ins, got, want)
		}
		for _, line := range strings.Split(want, "\n") {
			if words := strings.Fields(line); len(words) > 1 {
				met[words[1]] = true
			}
		}
	}
	if len(met) != 19 {
		t.Error(met)
	}
	// Places and registers of several digits.
	far := append(longCode(1000)[:999:999], in{Op: impl.InLoad, Arg: 999}, in{Op: impl.InJump, Arg: 1001}, in{Op: impl.InEmit})
	if got := impl.CodeText(far, 1000); !strings.HasSuffix(got.Text, "\n998 dup\n999 load 999\n1000 jump 1001\n1001 emit\n") {
		t.Error(short(got))
	}
	if got := impl.CodeText(longCode(6000), 0); strings.Count(got.Text, "\n") != 6000 || !strings.HasSuffix(got.Text, "\n5999 emit\n") {
		t.Error(short(got))
	}
}

// callAllCodes is what all functions of the chapter answer to these arguments.
func callAllCodes(list []core, ins []in, regs int64) []any {
	return []any{impl.CompileCore(list), impl.CodeFault(ins, regs), impl.HeightsOf(ins, regs), impl.CodeText(ins, regs), impl.TargetsOf(ins, regs)}
}

func cloneIns(ins []in) []in {
	clone := slices.Clone(ins)
	for i := range clone {
		clone[i].Val = slices.Clone(clone[i].Val)
	}
	return clone
}

// codesOfEveryKind are lists of instructions of every op and of none.
func codesOfEveryKind() [][]in {
	var lists [][]in
	for _, c := range faultyCodes() {
		lists = append(lists, c.ins)
	}
	for _, c := range heightCases() {
		lists = append(lists, readCode(c.ins))
	}
	for op := int64(-1); op <= 20; op++ {
		for _, i := range []in{{Op: op}, {Op: op, Arg: 1}, {Op: op, Val: str("k")}, {Op: op, Arg: math.MaxInt64, Val: str(strings.Repeat("\xff", 1000))}, {Op: op, Arg: math.MinInt64}} {
			lists = append(lists, []in{i}, []in{i, {Op: impl.InEmit}}, []in{{Op: impl.InDup}, i, {Op: impl.InBack}}, slices.Repeat([]in{i}, 6000))
		}
	}
	return append(lists, longCode(6000), longCode(6001))
}

// P1 of this chapter.
func TestCodesArgumentsStayAndAnswersAreNew(t *testing.T) {
	cores := coresOfEveryKind()
	for _, text := range []string{"comma(const=[1,2] const=[1,2])", "list(list(list(self)))", "alt(alt(self self) alt(self self))", `member="k"(member="k"(const={} self) self)`, "reduce:0(reduce:0(self self self) self self)", "as:0(const=[1] comma(var:0 var:0))"} {
		cores = append(cores, readTwig(text).nodes())
	}
	// One list of cells in several nodes.
	shared := val("[1,[2]]")
	cores = append(cores, []core{{Op: impl.CoreConst, Val: shared}, {Op: impl.CoreConst, Val: shared}, {Op: impl.CoreComma, B: 1}})
	codes := codesOfEveryKind()
	for i := range max(len(cores), len(codes)) {
		list, ins := cores[i%len(cores)], codes[i%len(codes)]
		regs := []int64{0, 1, 2, 1000, 1001, -1, math.MinInt64, math.MaxInt64}[i%8]
		if i%3 == 0 {
			regs = 2
		}
		keptList, keptIns := cloneCore(list), cloneIns(ins)
		first := callAllCodes(list, ins, regs)
		checkApart(t, first, list, ins)
		second := callAllCodes(list, ins, regs)
		if !reflect.DeepEqual(first, second) {
			t.Errorf("%s, %s, %d: %s, then %s", short(list), short(ins), regs, short(first), short(second))
		}
		scribble(first)
		if !sameCores(list, keptList) || !slices.EqualFunc(ins, keptIns, sameIn) {
			t.Errorf("%s or %s is changed", short(keptList), short(keptIns))
		}
		roomyList := roomyCores(list)
		if third := callAllCodes(roomyList, roomyIns(ins), regs); !reflect.DeepEqual(second, third) {
			t.Errorf("%s, %s, %d: %s, then %s", short(list), short(ins), regs, short(second), short(third))
		}
		for _, c := range roomyList {
			if slices.ContainsFunc(c.Val[:cap(c.Val)][len(c.Val):], func(c impl.Cell) bool { return c != impl.Cell{} }) {
				t.Errorf("%s is written behind", short(list))
			}
		}
	}
	if !reflect.DeepEqual(callAllCodes(nil, nil, 0), callAllCodes([]core{}, []in{}, 0)) {
		t.Error("nil and an empty list are told apart")
	}
	without := []in{{Op: impl.InDup, Val: cells{}}, {Op: impl.InEmit, Val: cells{}}}
	if got := impl.CodeText(without, 0); got != (impl.TextResult{Text: "0 dup\n1 emit\n"}) {
		t.Error(got)
	}
}

// roomyCores has lists that could be made longer, those without cells, too.
func roomyCores(list []core) []core {
	roomy := append(make([]core, 0, len(list)+3), list...)
	for i, c := range roomy {
		roomy[i].Val = append(make(cells, 0, len(c.Val)+3), c.Val...)
	}
	return roomy
}

func roomyIns(ins []in) []in {
	roomy := append(make([]in, 0, len(ins)+3), ins...)
	for i, c := range roomy {
		roomy[i].Val = append(make(cells, 0, len(c.Val)+3), c.Val...)
	}
	return roomy
}

func sameIn(a, b in) bool {
	return a.Op == b.Op && a.Arg == b.Arg && slices.Equal(a.Val, b.Val)
}
