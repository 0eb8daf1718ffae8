package tests

import (
	"slices"
	"strconv"
	"strings"
	"testing"

	"loop.example/g00166/impl"
)

func TestMachineConstants(t *testing.T) {
	if impl.MaxSteps != 30000 || impl.MaxForks != 400 || impl.MaxStack != 200 {
		t.Error(impl.MaxSteps, impl.MaxForks, impl.MaxStack)
	}
}

// checkSteps holds a run, its trace and its first out against the model, with every
// number of steps from 0 to more than it spends (of more than 300 those at both
// ends).
func checkSteps(t *testing.T, ins []in, regs int64, v cells) {
	t.Helper()
	if fault := modelCodeFault(ins, regs); fault.code != 0 {
		t.Fatalf("%s with %d: %v", short(codeAs(ins)), regs, fault)
	}
	h := modelHistory(ins, regs, v, impl.MaxSteps)
	spends := int64(len(h.places))
	for steps := int64(0); steps <= min(spends+2, impl.MaxSteps); steps++ {
		if steps == 20 && spends > 300 {
			steps = spends - 20
		}
		want := h.run(steps)
		if got := impl.RunCode(ins, regs, v, steps); !sameRun(got, want) {
			t.Fatalf("%s of %s with %d: %s, want %s", short(codeAs(ins)), short(v), steps, short(ranAs(got)), short(ranAs(want)))
		}
		if got, want := impl.TraceCode(ins, regs, v, steps), h.trace(steps); !sameTrace(got, want) {
			t.Fatalf("%s of %s with %d: traced %s, want %s", short(codeAs(ins)), short(v), steps, short(tracedAs(got)), short(tracedAs(want)))
		}
		if got, want := impl.RunFirst(ins, regs, v, steps), modelFirst(want); got.Code != want.Code || !slices.Equal(got.Value, want.Value) {
			t.Fatalf("%s of %s with %d: the first is %s, want %s", short(codeAs(ins)), short(v), steps, short(told(got)), short(told(want)))
		}
	}
}

type runCase struct{ ins, v, want string }

func checkRuns(t *testing.T, cases []runCase) {
	t.Helper()
	for _, c := range cases {
		ins := readCode(c.ins)
		if got := ranAs(impl.RunCode(ins, 2, val(c.v), 1000)); got != c.want {
			t.Errorf("%s of %s: %s, want %s", c.ins, c.v, got, c.want)
		}
		checkSteps(t, ins, 2, val(c.v))
	}
}

// What each takes from the stack and lays there.
func TestRunStack(t *testing.T) {
	checkRuns(t, []runCase{
		{"emit", "7", "7 ~1"}, {"emit", `{"a":[1,{}]}`, `{"a":[1,{}]} ~1`}, {"back", "7", "~1"}, {"back; emit", "7", "~1"},
		{"dup; emit", "7", "7 ~2"}, {"dup; bin 1; emit", "7", "14 ~3"}, {"push 1; dup; bin 1; bin 1; emit", "7", "9 ~5"},
		{"pop; push 1; emit", "7", "1 ~3"}, {"push 1; pop; emit", "7", "7 ~3"}, {"push 1; push 2; pop; pop; emit", "7", "7 ~5"}, {"pop; back", "7", "~2"},
		{"push 1; emit", "7", "1 ~2"}, {"push null; emit", "7", "null ~2"}, {`push {"a":[1,"x"]}; emit`, "7", `{"a":[1,"x"]} ~2`},
		{"push 1; swap; emit", "7", "7 ~3"}, {"push 1; swap; pop; emit", "7", "1 ~4"}, {"push 1; push 2; swap; emit", "7", "1 ~4"}, {"push 1; push 2; swap; pop; emit", "7", "2 ~5"}, {"push 1; push 2; swap; pop; pop; emit", "7", "7 ~6"}, {"push 1; swap; swap; emit", "7", "1 ~4"},
		// a is on top, b below it.
		{"push 2; bin 2; emit", "7", "-5 ~3"}, {"push 2; swap; bin 2; emit", "7", "5 ~4"}, {`push "a"; bin 1; emit`, `"b"`, `"ab" ~3`}, {"push 1; push 2; push 3; bin 2; emit", "7", "1 ~5"}, {"push 1; push 2; push 3; bin 2; pop; emit", "7", "1 ~6"}, {"push 2; push 7; bin 10; emit", "7", "3 ~4"},
		// b is on top, a below it.
		{"push 0; at; emit", "[5]", "5 ~3"}, {"push [5]; swap; at; emit", "0", "5 ~4"}, {`push "a"; at; emit`, `{"a":3}`, "3 ~3"}, {"push -1; at; emit", "[4,5]", "5 ~3"}, {"push [4,5]; push 1; at; emit", "7", "5 ~4"}, {"push [4,5]; push 1; at; pop; emit", "7", "7 ~5"}, {"push 9; at; emit", "[5]", "null ~3"}, {"push 0; at; emit", "null", "null ~3"},
		{`push 1; member "k"; emit`, "{}", `{"k":1} ~3`}, {`push 1; member "k"; emit`, "null", `{"k":1} ~3`}, {`push {}; swap; member ""; emit`, "7", `{"":7} ~4`}, {`push {"k":1,"l":2}; push 3; member "k"; emit`, "7", `{"k":3,"l":2} ~4`}, {`push {}; push 3; member "k"; pop; emit`, "7", "7 ~5"}, {`push {"a":1}; member "b"; emit`, "{}", `{"b":{"a":1}} ~3`},
		{"do 1; emit", "[4,5]", "2 ~2"}, {"do 2; emit", `{"b":1,"a":2}`, `["a","b"] ~2`}, {"do 3; emit", "false", `"boolean" ~2`}, {"do 4; emit", "[2,1]", "[1,2] ~2"}, {"do 5; emit", "[2,1]", "3 ~2"}, {"do 6; emit", "2", "[0,1] ~2"}, {"do 7; emit", "[2]", "[[2],2] ~2"}, {"push [1]; do 1; pop; emit", "7", "7 ~4"},
		{"jump 1; emit", "7", "7 ~2"}, {"jump 2; pop; emit", "7", "7 ~2"}, {"jump 3; push 1; emit; emit", "7", "7 ~2"},
		{"dup; unless 4; push 8; emit; push 9; emit", "7", "8 ~4"}, {"dup; unless 4; push 8; emit; push 9; emit", "null", "9 ~4"}, {"dup; unless 4; push 8; emit; push 9; emit", "false", "9 ~4"}, {"dup; unless 4; push 8; emit; push 9; emit", "true", "8 ~4"}, {"dup; unless 4; push 8; emit; push 9; emit", "0", "8 ~4"}, {"dup; unless 4; push 8; emit; push 9; emit", `""`, "8 ~4"}, {"dup; unless 4; push 8; emit; push 9; emit", "[]", "8 ~4"}, {"dup; unless 4; push 8; emit; push 9; emit", "{}", "8 ~4"}, {"dup; unless 2; emit", "null", "null ~3"}, {"push 5; unless 2; emit", "7", "7 ~3"}, {"unless 1; back", "7", "~2"},
		{"store 0; load 0; emit", "7", "7 ~3"}, {"store 1; load 0; emit", "7", "null ~3"}, {"load 1; emit", "7", "null ~2"}, {"load 0; pop; emit", "7", "7 ~3"}, {"dup; store 0; push 1; store 1; load 0; load 1; bin 2; emit", "7", "-6 ~8"}, {"push 1; store 0; store 0; load 0; load 0; bin 1; emit", "7", "14 ~7"},
		{"push []; store 0; append 0; load 0; emit", "7", "[7] ~5"}, {"push [1]; store 1; dup; append 1; append 1; load 1; emit", "[2]", "[1,[2],[2]] ~7"}, {"push []; dup; store 0; store 1; append 1; load 0; emit", "7", "[] ~7"},
		// What a register had stays what it was where it is elsewhere.
		{"push [1]; store 0; load 0; push 2; append 0; emit", "7", "[1] ~6"}, {"push [1]; dup; store 0; push 2; append 0; emit", "7", "[1] ~6"}, {"push [1]; store 0; load 0; store 1; append 0; load 1; emit", "7", "[1] ~7"}, {"push [1]; store 0; load 0; append 0; load 0; emit", "7", "[1,[1]] ~6"},
	})
	for op := range int64(11) {
		for _, a := range []string{"7", `"a"`, "[1,2]", "null"} {
			for _, b := range []string{"2", "0", `"b"`, "[2]", "null"} {
				ins := readCode("push " + b + "; swap; bin " + strconv.FormatInt(op+1, 10) + "; emit")
				want := modelFirst(modelHistory(ins, 0, val(a), 9).run(9))
				if binary := modelBinary(op+1, sampleOf(val(a)), sampleOf(val(b))); told(binary) != told(want) {
					t.Errorf("%s of %s: the model has %s, want %s", codeAs(ins), a, told(want), told(binary))
				}
				checkTold(t, codeAs(ins)+" of "+a, impl.RunFirst(ins, 0, val(a), 4), told(want))
			}
		}
	}
}

// Each goes on with all that there is, and with the stack below as it was.
func TestRunEach(t *testing.T) {
	checkRuns(t, []runCase{
		{"each; emit", "[]", "~1"}, {"each; emit", "{}", "~1"}, {"each; emit", "[1]", "1 ~2"}, {"each; emit", `{"a":1}`, "1 ~2"}, {"each; emit", "[1,2]", "1 2 ~3"}, {"each; emit", "[1,2,3]", "1 2 3 ~4"}, {"each; emit", `{"b":1,"a":[2],"c":{}}`, "[2] 1 {} ~4"}, {"each; emit", "[null,false]", "null false ~3"},
		{"each; each; emit", "[[1,2],[],[3],[4,5,6]]", "1 2 3 4 5 6 ~11"}, {"each; each; emit", "[]", "~1"}, {"each; each; emit", "[[],[]]", "~3"}, {"each; each; emit", "[[],[1],[]]", "1 ~5"},
		{"push [1,2,3]; each; emit", "7", "1 2 3 ~5"}, {"push [1,2,3]; each; pop; emit", "7", "7 7 7 ~8"}, {"push [1,2,3]; each; swap; emit", "7", "7 7 7 ~8"}, {"push [1,2,3]; each; bin 1; emit", "7", "8 9 10 ~8"}, {"push [1,2,3]; each; bin 1; dup; bin 1; emit", "7", "16 18 20 ~14"}, {"push [1,2]; each; push [10,20]; each; bin 1; emit", "7", "11 21 12 22 ~14"},
		// The stack is laid over, and what is below is changed, ahead of going back.
		{"push 5; push [1,2,3]; each; pop; swap; emit", "7", "7 7 7 ~12"}, {"push 5; push [1,2,3]; each; pop; pop; push 6; push 8; emit", "7", "8 8 8 ~18"}, {"push 5; push [1,2,3]; each; swap; pop; swap; pop; emit", "7", "1 2 3 ~18"}, {"push 5; push [1,2,3]; each; store 0; pop; pop; load 0; emit", "7", "1 2 3 ~18"}, {"push 5; push [1,2,3]; each; store 0; swap; pop; load 0; bin 1; emit", "7", "6 7 8 ~21"},
		{"each; dup; unless 4; emit; back", "[1,null,2]", "1 2 ~10"}, {"each; back", "[1,2,3]", "~4"}, {"each; push 1; at; emit", "[[1,2],[3,4]]", "2 4 ~7"},
		{"each; emit", "7", "!6 ~1"}, {"each; emit", "null", "!6 ~1"}, {"each; emit", `"a"`, "!6 ~1"}, {"each; each; emit", "[[1],2,[3]]", "1 !6 ~4"}, {"each; each; emit", "[[1,2],3]", "1 2 !6 ~5"},
	})
	// As many as there may be.
	all := numbersUpTo(199)
	if got := impl.RunCode(readCode("each; emit"), 0, all, 200); got.Code != 0 || got.Spent != 200 || !slices.EqualFunc(got.Outs, modelEach(sampleOf(all)).Parts, slices.Equal) {
		t.Error(short(ranAs(got)))
	}
	checkSteps(t, readCode("each; emit"), 0, all)
	// Over a stack of every height: what is done with it changes no point's.
	for height := range 80 {
		below := slices.Repeat(readCode("push 5"), height+2)
		for _, rest := range []string{"push [1,2,3]; each; pop; pop; push 6; emit", "push [1,2,3,4]; each; swap; pop; do 6; each; bin 1; swap; pop; emit"} {
			checkSteps(t, append(slices.Clone(below), readCode(rest)...), 0, num(7))
		}
		ins := append(slices.Clone(below), readCode("push [1,2,3]; each; bin 1; pop; push 8; push 9; bin 1; emit")...)
		if got, _, _ := strings.Cut(ranAs(impl.RunCode(ins, 0, num(7), 200)), " ~"); got != "17 17 17" {
			t.Errorf("%d: %s", height, got)
		}
		ins = append(slices.Clone(below), readCode("push [1,2,3]; each; bin 1; dup; store 0; pop; push 8; load 0; emit")...)
		if got, _, _ := strings.Cut(ranAs(impl.RunCode(ins, 1, num(7), 200)), " ~"); got != "6 7 8" {
			t.Errorf("%d: %s", height, got)
		}
	}
}

// Going back: with no point, to a fork, to an alt, and over a try.
func TestRunBack(t *testing.T) {
	checkRuns(t, []runCase{
		{"fork 3; push 1; emit; push 2; emit", "7", "1 2 ~5"}, {"alt 3; push 1; emit; push 2; emit", "7", "1 2 ~5"}, {"try 3; push 1; emit; push 2; emit", "7", "1 ~3"},
		{"fork 2; back; emit", "7", "7 ~3"}, {"alt 2; back; emit", "7", "7 ~3"}, {"try 2; back; emit", "7", "~2"}, {"fork 1; emit", "7", "7 7 ~3"}, {"alt 1; emit", "7", "7 7 ~3"}, {"try 1; emit", "7", "7 ~2"}, {"fork 1; back", "7", "~3"}, {"alt 1; back", "7", "~3"}, {"try 1; back", "7", "~2"},
		// With the stack as it was, whatever was done with it.
		{"fork 3; pop; back; emit", "7", "7 ~4"}, {"fork 4; push 1; swap; emit; emit", "7", "7 7 ~5"}, {"push 1; fork 4; swap; emit; emit", "7", "7 1 ~5"}, {"push 1; alt 4; swap; emit; emit", "7", "7 1 ~5"}, {"push 1; fork 4; swap; emit; swap; emit", "7", "7 7 ~6"}, {"push 1; fork 7; pop; pop; push 8; push 9; emit; bin 2; emit", "7", "9 -6 ~9"}, {"push 1; fork 7; pop; pop; push 8; push 9; emit; swap; emit", "7", "9 7 ~9"}, {"push 1; push 2; fork 6; bin 1; push 5; emit; bin 2; bin 2; emit", "7", "5 -6 ~9"}, {"push 1; fork 4; swap; emit; fork 7; swap; emit; swap; pop; emit", "7", "7 7 1 ~10"},
		{"fork 5; pop; push 1; store 0; back; load 0; emit", "7", "1 ~7"},
		// The last one first.
		{"fork 6; fork 4; push 1; emit; push 2; emit; push 3; emit", "7", "1 2 3 ~8"}, {"fork 6; alt 4; push 1; emit; push 2; emit; push 3; emit", "7", "1 2 3 ~8"}, {"alt 6; fork 4; push 1; emit; push 2; emit; push 3; emit", "7", "1 2 3 ~8"}, {"fork 3; push 1; jump 4; push 2; fork 7; push 3; jump 8; push 4; bin 1; emit", "7", "4 5 5 6 ~20"}, {"fork 3; do 1; jump 4; do 3; fork 7; do 3; jump 8; do 1; emit", `"ab"`, `"number" 2 "string" 6 ~16`},
		{"each; fork 3; emit; do 3; emit", "[1,2]", `1 "number" 2 "number" ~9`}, {"fork 3; each; emit; do 1; emit", "[1,2]", "1 2 2 ~6"}, {"fork 3; each; emit; each; emit", "[1,2]", "1 2 1 2 ~7"}, {"push [1,2]; each; pop; each; emit", "[3,4]", "3 4 3 4 ~10"},
		// Over one try, and over several.
		{"fork 3; try 3; back; emit", "7", "7 ~4"}, {"fork 4; try 4; try 4; back; emit", "7", "7 ~5"}, {"alt 5; try 5; try 5; try 5; back; emit", "7", "7 ~6"}, {"try 4; try 4; try 4; back; emit", "7", "~4"}, {"try 3; fork 3; back; emit", "7", "7 ~4"}, {"try 4; fork 4; try 4; back; emit", "7", "7 ~5"}, {"try 3; each; back; emit", "[1,2]", "~4"}, {"each; try 3; back; emit", "[1,2]", "~5"}, {"each; try 2; emit", "[1,2,3]", "1 2 3 ~7"}, {"try 2; each; emit", "[1,2,3]", "1 2 3 ~5"}, {"each; try 3; try 3; emit", "[1,2,3]", "1 2 3 ~10"}, {"fork 5; try 5; fork 4; emit; emit; emit", "7", "7 7 7 ~6"},
	})
}

// Registers stay as they are when it goes back, and when there is a code.
func TestRunRegistersStay(t *testing.T) {
	checkRuns(t, []runCase{
		{"fork 4; dup; store 0; back; load 0; emit", "7", "7 ~6"}, {"alt 4; dup; store 0; back; load 0; emit", "7", "7 ~6"}, {"alt 5; dup; store 0; do 8; emit; load 0; emit", "7", "7 ~6"}, {"fork 6; try 6; dup; store 0; do 8; emit; load 0; emit", "7", "7 ~7"},
		{"push 0; store 0; push [1,2,3]; each; load 0; bin 1; store 0; load 0; emit", "7", "1 3 6 ~19"}, {"push []; store 0; fork 6; each; append 0; back; load 0; emit", "[1,2,3]", "[1,2,3] ~12"}, {"push []; store 0; push [1,2]; each; append 0; load 0; emit", "7", "[1] [1,2] ~10"}, {"each; dup; store 0; load 1; emit", "[1,2]", "null null ~9"}, {"fork 5; push 1; store 0; fork 5; back; load 0; emit", "7", "1 1 ~9"}, {"push 4; store 1; fork 5; load 1; emit; push 5; store 1; load 1; emit", "7", "4 5 ~9"},
	})
}

// A code at a place ahead of a try or an alt, within it, at its Arg and behind it.
func TestRunCodes(t *testing.T) {
	checkRuns(t, []runCase{
		{"do 8; emit", "7", "!1 ~1"}, {"push 0; push 1; bin 10; emit", "7", "!3 ~3"}, {"push 1; at; emit", "7", "!6 ~2"}, {"push null; at; emit", "[1]", "!6 ~2"}, {`push 1; member "k"; emit`, "7", "!6 ~2"}, {"do 1; emit", "true", "!6 ~1"}, {"do 6; emit", "200", "!3 ~1"}, {"append 0; back", "7", "!6 ~1"}, {"push {}; store 0; append 0; back", "7", "!6 ~3"}, {`push "a"; store 0; append 0; back`, "7", "!6 ~3"}, {"each; emit", "7", "!6 ~1"},
		// Of a try.
		{"do 8; try 2; emit", "7", "!1 ~1"}, {"try 2; do 8; emit", "7", "~2"}, {"try 4; dup; pop; do 8; emit", "7", "~4"}, {"try 1; do 8; emit", "7", "!1 ~2"}, {"try 1; dup; do 8; emit", "7", "!1 ~3"}, {"try 2; jump 2; do 8; emit", "7", "!1 ~3"}, {"try 3; jump 3; back; do 8; emit", "7", "!1 ~3"}, {"try 3; jump 4; do 8; emit; do 8; emit", "7", "!1 ~3"},
		{"fork 3; do 8; emit; try 4; emit", "7", "!1 ~2"}, {"fork 3; try 2; do 8; emit", "7", "!1 ~3"}, {"fork 4; try 3; do 8; emit; emit", "7", "7 ~4"}, {"fork 4; try 2; do 8; emit; emit", "7", "!1 ~3"}, {"fork 5; try 2; dup; do 8; emit; emit", "7", "!1 ~4"},
		// Of an alt.
		{"do 8; alt 2; emit", "7", "!1 ~1"}, {"alt 2; do 8; emit", "7", "7 ~3"}, {"alt 4; dup; pop; do 8; emit", "7", "7 ~5"}, {"alt 1; do 8; emit", "7", "!1 ~2"}, {"alt 1; dup; do 8; emit", "7", "!1 ~3"}, {"alt 3; do 8; emit; push 9; emit", "7", "9 ~4"}, {"alt 3; jump 4; do 8; emit; do 8; emit", "7", "!1 ~3"}, {"alt 3; jump 4; back; emit; do 8; emit", "7", "!1 ~3"}, {"fork 3; do 8; emit; alt 4; emit", "7", "!1 ~2"}, {"fork 4; alt 3; do 8; emit; emit", "7", "7 7 ~5"}, {"fork 4; alt 2; do 8; emit; emit", "7", "!1 ~3"},
		// On at its Arg with its stack.
		{"push 1; alt 4; swap; do 8; emit", "7", "1 ~5"}, {"push 1; alt 5; pop; push 3; do 8; bin 2; emit", "7", "-6 ~7"}, {"alt 7; pop; push 1; push 2; do 8; bin 1; emit; emit", "7", "7 ~6"},
		// An alt that was gone back to is gone: a code behind it is not its own.
		{"alt 3; push 1; emit; do 8; emit", "7", "1 !1 ~4"}, {"alt 2; do 8; do 8; emit", "7", "!1 ~3"}, {"fork 5; alt 3; do 8; do 8; emit; emit", "7", "!1 ~4"}, {"fork 6; try 6; alt 4; do 8; do 8; emit; emit", "7", "7 ~6"},
	})
}

// Points within one another that are taken on the way to one that is about the
// place.
func TestRunCodesWithin(t *testing.T) {
	checkRuns(t, []runCase{
		// Forks and eaches within are not gone back to.
		{"fork 6; try 6; fork 6; fork 6; do 8; emit; emit", "7", "7 ~6"}, {"try 5; fork 4; fork 4; do 8; emit; emit", "7", "~4"}, {"alt 5; fork 4; fork 4; do 8; emit; push 9; emit", "7", "9 ~6"}, {"try 4; each; each; do 8; emit", "[[1,2],[3]]", "~4"}, {"alt 5; each; each; do 8; emit; emit", "[[1,2],[3]]", "[[1,2],[3]] ~5"}, {"fork 5; try 5; each; do 6; emit; emit", "[1,true,2]", "[0] [1,true,2] ~7"}, {"alt 4; each; do 6; emit; emit", "[1,true,2]", "[0] [1,true,2] ~6"}, {"try 4; each; do 6; emit; emit", "[1,true,2]", "[0] ~5"},
		// Those about it go on: only the ones within are taken.
		{"each; try 3; do 6; emit", "[1,true,2]", "[0] [0,1] ~9"}, {"each; alt 3; do 6; emit", "[1,true,2]", "[0] 1 true [0,1] 2 ~12"}, {"fork 5; each; try 4; do 6; emit; emit", "[1,true,2]", "[0] [0,1] [1,true,2] ~11"}, {"each; try 4; each; do 6; emit", "[[1,true,2],[3]]", "[0] [0,1,2] ~10"},
		// A try or an alt that ended ahead of the place is taken and does nothing.
		{"fork 5; try 5; try 3; do 8; emit; emit", "7", "7 ~5"}, {"fork 5; try 5; alt 3; do 8; emit; emit", "7", "7 ~5"}, {"alt 5; try 2; try 3; do 8; emit; emit", "7", "7 ~5"}, {"alt 5; alt 2; alt 3; do 8; emit; emit", "7", "7 ~5"}, {"try 5; alt 2; alt 3; do 8; emit; emit", "7", "~4"}, {"alt 2; fork 3; alt 3; do 8; emit", "7", "!1 ~4"}, {"try 1; try 2; try 3; do 8; emit", "7", "!1 ~4"},
		// The innermost of those about it, whichever it is.
		{"alt 7; try 5; alt 4; do 8; emit; emit; emit; emit", "7", "7 7 ~6"}, {"alt 7; alt 5; try 4; do 8; emit; emit; emit; push 9; emit", "7", "7 9 ~7"}, {"try 7; alt 5; do 8; emit; emit; push 8; emit; emit", "7", "8 ~5"}, {"alt 6; try 5; do 8; emit; emit; emit; push 9; emit", "7", "9 ~5"},
		// Behind a try there is no try.
		{"each; try 3; do 6; do 8; emit", "[1,true,2]", "!1 ~4"}, {"try 2; each; do 6; emit", "[1,true]", "[0] !6 ~5"}, {"each; try 2; do 6; emit", "[1,true,2]", "[0] !6 ~6"}, {"try 3; fork 3; do 8; emit", "7", "~3"}, {"try 2; fork 3; do 8; emit", "7", "!1 ~3"},
	})
}

// Each code that an instruction can come to is caught, and told where it is not.
func TestRunEveryCode(t *testing.T) {
	long, far, deep := str(strings.Repeat("x", 60)), numbersUpTo(150), nested(20)
	push := func(v cells) in { return in{Op: impl.InPush, Val: v} }
	cases := []struct {
		ins  []in
		code int64
	}{
		{[]in{{Op: impl.InDo, Arg: 8}}, impl.ErrForm},
		{[]in{push(far), push(far), {Op: impl.InBin, Arg: 1}}, impl.ErrMany}, {[]in{push(num(0)), push(num(1)), {Op: impl.InBin, Arg: 11}}, impl.ErrRange}, {[]in{push(num(impl.MaxNumber)), {Op: impl.InDup}, {Op: impl.InBin, Arg: 1}}, impl.ErrRange}, {[]in{push(num(impl.MaxNumber)), {Op: impl.InDup}, {Op: impl.InBin, Arg: 3}}, impl.ErrRange}, {[]in{push(long), {Op: impl.InDup}, {Op: impl.InBin, Arg: 1}}, impl.ErrText}, {[]in{push(long), push(far), {Op: impl.InBin, Arg: 1}}, impl.ErrKind},
		{[]in{push(long), push(null()), {Op: impl.InAt}}, impl.ErrKind}, {[]in{push(far), push(long), {Op: impl.InAt}}, impl.ErrKind},
		{[]in{push(null()), push(deep), {Op: impl.InMember, Val: str("k")}}, impl.ErrDeep}, {[]in{push(null()), push(numbersUpTo(199)), {Op: impl.InMember, Val: str("k")}}, impl.ErrMany}, {[]in{push(num(1)), push(num(1)), {Op: impl.InMember, Val: str("k")}}, impl.ErrKind},
		{[]in{push(yes()), {Op: impl.InDo, Arg: 1}}, impl.ErrKind}, {[]in{push(num(200)), {Op: impl.InDo, Arg: 6}}, impl.ErrRange}, {[]in{push(far), {Op: impl.InDo, Arg: 7}}, impl.ErrMany}, {[]in{push(arr(long, long)), {Op: impl.InDo, Arg: 5}}, impl.ErrText}, {[]in{push(num(1)), {Op: impl.InEach}}, impl.ErrKind},
		{[]in{push(far), {Op: impl.InAppend}, push(null())}, impl.ErrKind}, {[]in{push(numbersUpTo(199)), {Op: impl.InStore}, push(null()), {Op: impl.InAppend}, push(null())}, impl.ErrMany}, {[]in{push(arr()), {Op: impl.InStore}, push(deep), {Op: impl.InAppend}, push(null())}, impl.ErrDeep}, {[]in{push(arr(nested(19))), {Op: impl.InStore}, push(deep), {Op: impl.InAppend}, push(null())}, impl.ErrDeep},
	}
	for _, c := range cases {
		count := int64(len(c.ins))
		shifted := func(before ...in) []in {
			return slices.Concat(before, c.ins, []in{{Op: impl.InEmit}, push(str("on")), {Op: impl.InEmit}})
		}
		checks := []struct {
			ins  []in
			want string
		}{
			{shifted(), code(c.code) + " "}, {shifted(in{Op: impl.InTry, Arg: count + 2}), ""}, {shifted(in{Op: impl.InAlt, Arg: count + 2}), `"on" `}, {shifted(in{Op: impl.InFork, Arg: count + 3}, in{Op: impl.InTry, Arg: count + 3}), `"on" `}, {shifted(in{Op: impl.InFork, Arg: count + 3}, in{Op: impl.InTry, Arg: 2}), code(c.code) + " "}, {shifted(in{Op: impl.InFork, Arg: count + 2}), code(c.code) + " "}, {shifted(in{Op: impl.InTry, Arg: 1}), code(c.code) + " "}, {shifted(in{Op: impl.InAlt, Arg: 1}), code(c.code) + " "},
		}
		for _, check := range checks {
			got, _, _ := strings.Cut(ranAs(impl.RunCode(check.ins, 1, null(), 100)), "~")
			if got != check.want {
				t.Errorf("%s: %s, want %s", short(codeAs(check.ins)), got, check.want)
			}
			checkSteps(t, check.ins, 1, null())
		}
	}
}

// What is full stays as it is, and so does what is no array.
func TestRunAppend(t *testing.T) {
	full, almost := numbersUpTo(199), numbersUpTo(198)
	start := []in{{Op: impl.InPush, Val: almost}, {Op: impl.InStore}}
	more := append(slices.Clone(start), readCode("append 0; load 0; emit")...)
	if got := impl.RunCode(more, 1, num(198), 9); got.Code != 0 || len(got.Outs) != 1 || !slices.Equal(got.Outs[0], full) {
		t.Error(short(ranAs(got)))
	}
	for _, v := range []cells{null(), arr(), num(198), str("")} {
		checkSteps(t, more, 1, v)
	}
	if got := impl.RunCode(more, 1, arr(null()), 9); got.Code != impl.ErrMany || got.Spent != 3 || len(got.Outs) != 0 {
		t.Error(short(ranAs(got)))
	}
	// One more, and the array as it was ahead of it.
	stays := readCode("alt 6; dup; append 0; dup; append 0; back; load 0; emit")
	stays = append(slices.Clone(start), stays...)
	stays[2].Arg += 2
	if got := impl.RunCode(stays, 1, num(198), 20); got.Code != 0 || len(got.Outs) != 1 || !slices.Equal(got.Outs[0], full) {
		t.Error(short(ranAs(got)))
	}
	checkSteps(t, stays, 1, num(198))
	checkRuns(t, []runCase{
		{"push {}; store 0; alt 6; dup; append 0; back; load 0; emit", "7", "{} ~7"}, {"alt 4; dup; append 0; back; load 0; emit", "7", "null ~5"}, {"push []; store 0; alt 6; dup; append 0; back; load 0; emit", "7", "[7] ~8"}, {"push []; store 0; each; append 0; load 0; emit", "[[],{},null]", "[[]] [[],{}] [[],{},null] ~12"},
	})
}

// As many outs as there may be, and one more: that is no code that is caught.
func TestRunMostOuts(t *testing.T) {
	cases := []struct {
		ins, v string
		code   int64
		outs   int
		spent  int64
	}{
		{"each; do 6; each; emit", "[150,149]", 0, 299, 304}, {"each; do 6; each; emit", "[150,150]", 0, 300, 305}, {"each; do 6; each; emit", "[150,151]", impl.ErrMany, 300, 306}, {"each; do 6; each; emit", "[199,199]", impl.ErrMany, 300, 306}, {"each; do 6; each; emit", "[150,150,0]", 0, 300, 307}, {"each; do 6; each; emit", "[150,150,1,0]", impl.ErrMany, 300, 308},
		// A code behind the last one.
		{"each; do 6; each; emit", `[150,150,"a"]`, impl.ErrKind, 300, 306}, {"each; do 6; each; emit", `[150,151,"a"]`, impl.ErrMany, 300, 306}, {"each; do 6; each; emit", `[150,149,"a"]`, impl.ErrKind, 299, 305},
		{"try 5; each; do 6; each; emit; emit", "[150,151]", impl.ErrMany, 300, 307}, {"alt 5; each; do 6; each; emit; emit", "[150,151]", impl.ErrMany, 300, 307}, {"fork 5; each; do 6; each; emit; emit", "[150,150]", impl.ErrMany, 300, 307}, {"fork 5; each; do 6; each; emit; emit", "[150,149]", 0, 300, 306}, {"alt 5; each; do 6; each; emit; emit", "[150,150]", impl.ErrMany, 300, 307}, {"try 5; each; do 6; each; emit; emit", "[150,150]", 0, 300, 306},
	}
	for _, c := range cases {
		ins := readCode(c.ins)
		got := impl.RunCode(ins, 0, val(c.v), impl.MaxSteps)
		if got.Code != c.code || len(got.Outs) != c.outs || got.Spent != c.spent {
			t.Errorf("%s of %s: %d, %d Outs, ~%d; want %d, %d, ~%d", c.ins, c.v, got.Code, len(got.Outs), got.Spent, c.code, c.outs, c.spent)
		}
		for i, out := range got.Outs[:min(300, len(got.Outs))] {
			if i < 299 && !slices.Equal(out, num(int64(i%150))) && c.v != "[199,199]" {
				t.Errorf("%s of %s: %d is %s", c.ins, c.v, i, short(out))
			}
		}
		checkSteps(t, ins, 0, val(c.v))
	}
}

// A stack of as many values as there may be, and one more: that is no code that is
// caught.
func TestRunMostValues(t *testing.T) {
	for _, word := range []string{"dup", "push 1", "load 0"} {
		one := readCode(word)
		for _, more := range []int{197, 198, 199, 200, 201, 300} {
			filled := slices.Repeat(one, more)
			plain := append(slices.Clone(filled), in{Op: impl.InEmit})
			got, traced := impl.RunCode(plain, 1, num(7), 500), impl.TraceCode(plain, 1, num(7), 500)
			want := impl.RunResult{Spent: int64(more) + 1, Outs: []cells{map[string]cells{"dup": num(7), "push 1": num(1), "load 0": null()}[word]}}
			if more > 199 {
				want = impl.RunResult{Code: impl.ErrFull, Spent: 200}
			}
			if !sameRun(got, want) || traced.Stack != min(200, int64(more)+1) || traced.Code != want.Code || int64(len(traced.Places)) != want.Spent {
				t.Errorf("%d of %s: %s, %s, want %s", more, word, short(ranAs(got)), short(tracedAs(traced)), ranAs(want))
			}
			checkSteps(t, plain, 1, num(7))
			for _, op := range []int64{impl.InTry, impl.InAlt, impl.InFork} {
				about := slices.Concat([]in{{Op: op, Arg: int64(more) + 2}}, plain, []in{{Op: impl.InEmit}})
				got := impl.RunCode(about, 1, num(7), 500)
				if full := more > 199; full != (got.Code == impl.ErrFull) || full && (got.Spent != 201 || len(got.Outs) > 0) {
					t.Errorf("%d of %s about which is %d: %s", more, word, op, short(ranAs(got)))
				}
				checkSteps(t, about, 1, num(7))
			}
		}
	}
	// With a full stack all is done that lays no more than it takes.
	filled := slices.Repeat(readCode("push [1,2]"), 199)
	for _, rest := range []string{"swap; emit", "bin 1; emit", "pop; push 3; emit", "each; emit", "each; pop; push 1; emit", "do 1; emit", "push 0; emit", "dup; emit", "load 0; emit", "pop; dup; dup; emit", "store 0; load 0; emit", "append 0; emit", "each; dup; emit", "pop; push [3]; each; emit"} {
		checkSteps(t, append(slices.Clone(filled), readCode(rest)...), 1, num(7))
	}
	forked := append(slices.Clone(filled), in{Op: impl.InFork, Arg: 201}, in{Op: impl.InEach}, in{Op: impl.InEmit})
	if got := ranAs(impl.RunCode(forked, 0, num(7), 500)); got != "1 2 [1,2] ~204" {
		t.Error(got)
	}
	checkSteps(t, forked, 0, num(7))
}

// As many points as there may be, and one more, of each Op that lays one: that is no
// code that is caught.
func TestRunMostPoints(t *testing.T) {
	pieces := map[string]string{"fork": "fork 0", "try": "try 0", "alt": "alt 0", "each": "push [1,2]; each; pop"}
	for name, piece := range pieces {
		for _, count := range []int{399, 400, 401, 450} {
			ins := slices.Repeat(readCode(piece), count)
			for at := range ins {
				if goesSomewhere(modelIns[ins[at].Op].word) == 1 {
					ins[at].Arg = int64(len(ins))
				}
			}
			ins = append(ins, in{Op: impl.InBack})
			got := impl.TraceCode(ins, 0, num(7), impl.MaxSteps)
			full := count > 400
			if got.Forks != int64(min(count, 400)) || full != (got.Code == impl.ErrFull) {
				t.Errorf("%d of %s: %s", count, name, short(tracedAs(got)))
			}
			if run := impl.RunCode(ins, 0, num(7), impl.MaxSteps); full && run.Spent != map[bool]int64{true: 1202, false: 401}[name == "each"] || len(run.Outs) > 0 {
				t.Errorf("%d of %s: %s", count, name, short(ranAs(run)))
			}
			checkSteps(t, ins, 0, num(7))
			// About them a try or an alt, which is a point, too.
			for _, op := range []int64{impl.InTry, impl.InAlt} {
				about := []in{{Op: op, Arg: int64(len(ins))}}
				for _, i := range ins {
					if goesSomewhere(modelIns[i.Op].word) == 1 {
						i.Arg++
					}
					about = append(about, i)
				}
				got := impl.RunCode(about, 0, num(7), impl.MaxSteps)
				if full := count >= 400; full != (got.Code == impl.ErrFull) || full && got.Spent != map[bool]int64{true: 1200, false: 401}[name == "each"] {
					t.Errorf("%d of %s about which is %d: %s", count, name, op, short(ranAs(got)))
				}
				checkSteps(t, about, 0, num(7))
			}
		}
	}
	// With as many as there may be: an each that lays none, and what was taken leaves
	// room.
	filled := slices.Repeat(readCode("fork 0"), 400)
	for at := range filled {
		filled[at].Arg = 400
	}
	cases := []struct{ rest, v, want string }{
		{"each; emit", "[1]", "1"}, {"each; emit", "[]", ""}, {"each; emit", "[1,2]", "!10"}, {"each; emit", "7", "!6"}, {"fork 1; emit", "7", "!10"}, {"try 1; emit", "7", "!10"}, {"alt 1; emit", "7", "!10"}, {"emit", "7", "7"}, {"dup; emit", "7", "7"}, {"do 8; emit", "7", "!1"}, {"jump 1; emit", "7", "7"},
	}
	for _, c := range cases {
		rest := readCode(c.rest)
		for at := range rest {
			if goesSomewhere(modelIns[rest[at].Op].word) == 1 {
				rest[at].Arg += 400
			}
		}
		ins := append(slices.Clone(filled), rest...)
		first := impl.RunFirst(ins, 0, val(c.v), 402)
		checkTold(t, c.rest+" of "+c.v, first, map[bool]string{true: "!8", false: c.want}[c.want == ""])
		checkSteps(t, ins, 0, val(c.v))
	}
	checkSteps(t, append(append(slices.Clone(filled[1:]), in{Op: impl.InFork, Arg: 400}), readCode("push [1,2,3]; each; emit")...), 0, num(7))
}

// With each number of steps from 0 on, told by hand.
func TestRunSteps(t *testing.T) {
	cases := map[string]string{
		"emit":                                "!8 ~0; 7 ~1; 7 ~1",
		"back":                                "!8 ~0; ~1; ~1",
		"do 8; emit":                          "!8 ~0; !1 ~1; !1 ~1",
		"dup; emit":                           "!8 ~0; !8 ~1; 7 ~2; 7 ~2",
		"fork 1; emit":                        "!8 ~0; !8 ~1; 7 !8 ~2; 7 7 ~3; 7 7 ~3",
		"fork 2; back; emit":                  "!8 ~0; !8 ~1; !8 ~2; 7 ~3; 7 ~3",
		"try 2; back; emit":                   "!8 ~0; !8 ~1; ~2; ~2",
		"try 2; do 8; emit":                   "!8 ~0; !8 ~1; ~2; ~2",
		"alt 2; do 8; emit":                   "!8 ~0; !8 ~1; !8 ~2; 7 ~3; 7 ~3",
		"fork 3; emit; emit; do 8; emit":      "!8 ~0; !8 ~1; 7 !8 ~2; 7 !1 ~3; 7 !1 ~3",
		"push [1,2]; each; emit":              "!8 ~0; !8 ~1; !8 ~2; 1 !8 ~3; 1 2 ~4; 1 2 ~4",
		"push [1]; each; emit":                "!8 ~0; !8 ~1; !8 ~2; 1 ~3; 1 ~3",
		"push []; each; emit":                 "!8 ~0; !8 ~1; ~2; ~2",
		"jump 2; pop; emit":                   "!8 ~0; !8 ~1; 7 ~2; 7 ~2",
		"append 0; back":                      "!8 ~0; !6 ~1; !6 ~1",
		"fork 3; try 3; do 8; emit":           "!8 ~0; !8 ~1; !8 ~2; !8 ~3; 7 ~4; 7 ~4",
		"push 1; unless 3; emit; back":        "!8 ~0; !8 ~1; !8 ~2; 7 ~3; 7 ~3",
		"push null; unless 3; emit; back":     "!8 ~0; !8 ~1; !8 ~2; ~3; ~3",
		"store 0; load 0; fork 3; emit; back": "!8 ~0; !8 ~1; !8 ~2; !8 ~3; 7 !8 ~4; 7 7 ~5; 7 7 ~5",
	}
	for text, want := range cases {
		ins := readCode(text)
		for steps, want := range strings.Split(want, "; ") {
			if got := ranAs(impl.RunCode(ins, 1, num(7), int64(steps))); got != want {
				t.Errorf("%s with %d: %s, want %s", text, steps, got, want)
			}
		}
		last := want[strings.LastIndex(want, "; ")+2:]
		if got := ranAs(impl.RunCode(ins, 1, num(7), impl.MaxSteps)); got != last || strings.Contains(last, code(impl.ErrFuel)) {
			t.Errorf("%s with all: %s, want %s", text, got, last)
		}
	}
}
