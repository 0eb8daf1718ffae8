package tests

import (
	"cmp"
	"math"
	"reflect"
	"slices"
	"strings"
	"testing"

	"loop.example/g00166/impl"
)

var farSteps = []int64{0, 1, 2, impl.MaxSteps - 1, impl.MaxSteps, impl.MaxSteps + 1, -1, -impl.MaxSteps, math.MinInt64, math.MaxInt64}

func stepsFit(steps int64) bool {
	return 0 <= steps && steps <= 30000
}

// The places, in the order in which they were come to, and the greatest numbers,
// told by hand.
func TestTraceCode(t *testing.T) {
	cases := []struct {
		ins, v string
		steps  int64
		want   string
	}{
		{"emit", "7", 9, "0 ^1 *0"}, {"emit", "7", 1, "0 ^1 *0"}, {"emit", "7", 0, "!8 ^1 *0"}, {"back", "7", 9, "0 ^1 *0"}, {"pop; back", "7", 9, "0 1 ^1 *0"}, {"dup; dup; pop; pop; emit", "7", 9, "0 1 2 3 4 ^3 *0"}, {"dup; dup; pop; pop; emit", "7", 1, "0 !8 ^2 *0"}, {"dup; bin 1; dup; bin 1; emit", "7", 9, "0 1 2 3 4 ^2 *0"}, {"jump 2; pop; emit", "7", 9, "0 2 ^1 *0"}, {"dup; unless 3; back; emit", "null", 9, "0 1 3 ^2 *0"}, {"dup; unless 3; back; emit", "7", 9, "0 1 2 ^2 *0"},
		{"fork 3; push 1; emit; emit", "7", 9, "0 1 2 3 ^2 *1"}, {"fork 1; fork 2; emit", "7", 9, "0 1 2 2 1 2 2 ^1 *2"}, {"fork 2; back; dup; emit", "7", 9, "0 1 2 3 ^2 *1"}, {"fork 3; pop; back; push 1; push 2; emit", "7", 9, "0 1 2 3 4 5 ^3 *1"}, {"try 1; alt 2; fork 3; emit", "7", 99, "0 1 2 3 3 2 3 3 ^1 *3"},
		{"each; emit", "[]", 9, "0 ^1 *0"}, {"each; emit", "[1]", 9, "0 1 ^1 *0"}, {"each; emit", "[1,2]", 9, "0 1 1 ^1 *1"}, {"each; emit", "[1,2,3]", 9, "0 1 1 1 ^1 *1"}, {"each; each; emit", "[[1,2],[3,4]]", 99, "0 1 2 2 1 2 2 ^1 *2"}, {"each; each; emit", "[[1,2],[3]]", 99, "0 1 2 2 1 2 ^1 *2"}, {"each; each; emit", "[[1],[2,3]]", 99, "0 1 2 1 2 2 ^1 *1"}, {"each; push [1,2,3]; each; emit", "[7,8]", 99, "0 1 2 3 3 3 1 2 3 3 3 ^2 *2"}, {"push [1,2]; each; emit", "7", 2, "0 1 !8 ^2 *1"}, {"push [1,2]; each; emit", "7", 1, "0 !8 ^2 *0"},
		// Beside a code, that of an instruction which is among those that were done.
		{"dup; dup; pop; pop; do 8; emit", "7", 9, "0 1 2 3 4 !1 ^3 *0"}, {"fork 3; fork 3; back; do 8; emit", "7", 9, "0 1 2 3 !1 ^1 *2"}, {"fork 3; dup; do 8; emit", "7", 9, "!9 ^0 *0"}, {"fork 4; push 1; do 8; emit; emit", "7", 9, "0 1 2 !1 ^2 *1"}, {"try 4; push 1; do 8; emit; emit", "7", 9, "0 1 2 ^2 *1"}, {"alt 4; push 1; do 8; emit; emit", "7", 9, "0 1 2 4 ^2 *1"}, {"each; do 6; emit", "[1,true,2]", 9, "0 1 2 1 !6 ^1 *1"}, {"each; try 3; do 6; emit", "[1,true,2]", 99, "0 1 2 3 1 2 1 2 3 ^1 *2"}, {"append 0; back", "7", 9, "0 !6 ^1 *0"}, {"fork 3; push 1; emit; dup; dup; do 8; emit", "7", 9, "0 1 2 3 4 5 !1 ^3 *1"},
	}
	for _, c := range cases {
		if got := tracedAs(impl.TraceCode(readCode(c.ins), 1, val(c.v), c.steps)); got != c.want {
			t.Errorf("%s of %s with %d: %s, want %s", c.ins, c.v, c.steps, got, c.want)
		}
	}
}

// jumps is code of as many instructions as n that does each of them once.
func jumps(n int) []in {
	var ins []in
	for at := range int64(n - 1) {
		ins = append(ins, in{Op: impl.InJump, Arg: at + 1})
	}
	return append(ins, in{Op: impl.InEmit})
}

// No more places than 1000, the first ones, whatever is done behind them.
func TestTraceMostPlaces(t *testing.T) {
	for _, n := range []int{1, 998, 999, 1000, 1001, 1002, 6000} {
		ins := jumps(n)
		for _, steps := range []int64{0, 1, 998, 999, 1000, 1001, 1002, 5999, 6000, 6001, 30000} {
			got := impl.TraceCode(ins, 0, num(7), steps)
			done := min(int64(n), steps)
			want := impl.TraceResult{Stack: 1}
			for place := range min(done, 1000) {
				want.Places = append(want.Places, place)
			}
			if steps < int64(n) {
				want.Code = impl.ErrFuel
			}
			if !sameTrace(got, want) {
				t.Errorf("%d with %d: %s, want %s", n, steps, short(tracedAs(got)), short(tracedAs(want)))
			}
			if run := impl.RunCode(ins, 0, num(7), steps); run.Spent != done || run.Code != want.Code {
				t.Errorf("%d with %d: %s", n, steps, short(ranAs(run)))
			}
		}
	}
	// The greatest numbers are told of all that is done.
	late := jumps(1200)[:1199]
	ins := append(slices.Clone(late), readCode("dup; dup; dup; fork 1203; emit")...)
	ins[1202].Arg = 1203
	if got := impl.TraceCode(ins, 0, num(7), impl.MaxSteps); got.Code != 0 || len(got.Places) != 1000 || got.Places[999] != 999 || got.Stack != 4 || got.Forks != 1 {
		t.Error(short(tracedAs(got)))
	}
	ins = append(slices.Clone(late), readCode("dup; dup; do 8; emit")...)
	if got := impl.TraceCode(ins, 0, num(7), impl.MaxSteps); got.Code != impl.ErrForm || len(got.Places) != 1000 || got.Stack != 3 || got.Forks != 0 {
		t.Error(short(tracedAs(got)))
	}
	// Places that are come to again.
	got := impl.TraceCode(readCode("each; each; emit"), 0, arr(repeat(14, numbersUpTo(13))...), impl.MaxSteps)
	if len(got.Places) != 1+14+14*13 || got.Places[196] != 2 {
		t.Error(short(tracedAs(got)))
	}
}

// As many steps as there may be, and as much as may be done with them.
func TestRunMostSteps(t *testing.T) {
	// 199 rounds of 199 rounds, of which not all are done.
	ins := readCode("push 199; do 6; each; push 199; do 6; each; bin 1; pop; back")
	for _, steps := range []int64{29999, 30000} {
		got := impl.RunCode(ins, 0, null(), steps)
		if got.Code != impl.ErrFuel || got.Spent != steps || len(got.Outs) != 0 {
			t.Errorf("%d: %s", steps, short(ranAs(got)))
		}
		trace := impl.TraceCode(ins, 0, null(), steps)
		if trace.Code != impl.ErrFuel || len(trace.Places) != 1000 || trace.Stack != 3 || trace.Forks != 2 {
			t.Errorf("%d: %s", steps, short(tracedAs(trace)))
		}
		checkTold(t, "no out", impl.RunFirst(ins, 0, null(), steps), "!8")
	}
	// The last step is the last one that may be: 149 rounds of 201 steps, and 3 ahead
	// of them.
	ins = append(readCode("push 149; do 6; each"), slices.Repeat(readCode("dup; pop"), 100)...)
	ins = append(ins, in{Op: impl.InBack})
	if got := impl.RunCode(ins, 0, null(), impl.MaxSteps); got.Spent != 3+149*201 || got.Code != 0 {
		t.Fatal(ranAs(got))
	}
	// 29952 are spent; 48 more ahead of them are all.
	for _, more := range []int{47, 48, 49} {
		long := append(slices.Repeat(readCode("dup; pop"), more/2), ins...)
		if more%2 == 1 {
			long = append(readCode("dup"), long...)
		}
		got := impl.RunCode(long, 0, null(), impl.MaxSteps)
		want := impl.RunResult{Spent: 29952 + int64(more)}
		if more == 49 {
			want = impl.RunResult{Code: impl.ErrFuel, Spent: 30000}
		}
		if !sameRun(got, want) {
			t.Errorf("%d: %s, want %s", more, ranAs(got), ranAs(want))
		}
	}
	for _, v := range []cells{null(), numbersUpTo(199), nested(20)} {
		checkSteps(t, ins, 0, v)
	}
}

// The fault of the code, of the value, and the steps, in this order; nothing is
// beside them.
func TestRunFaults(t *testing.T) {
	check := func(ins []in, regs int64, v cells, steps, want int64) {
		t.Helper()
		if got := impl.RunCode(ins, regs, v, steps); !reflect.DeepEqual(got, impl.RunResult{Code: want}) {
			t.Errorf("%s, %d, %s, %d: %s, want %d", short(codeAs(ins)), regs, short(v), steps, short(got), want)
		}
		if got := impl.TraceCode(ins, regs, v, steps); !reflect.DeepEqual(got, impl.TraceResult{Code: want}) {
			t.Errorf("%s, %d, %s, %d: traced %s, want %d", short(codeAs(ins)), regs, short(v), steps, short(got), want)
		}
		if got := impl.RunFirst(ins, regs, v, steps); !reflect.DeepEqual(got, failing(want)) {
			t.Errorf("%s, %d, %s, %d: the first is %s, want %d", short(codeAs(ins)), regs, short(v), steps, short(got), want)
		}
	}
	emit := readCode("emit")
	for _, c := range faultyCodes() {
		check(c.ins, c.regs, num(7), 9, c.code)
		check(c.ins, c.regs, str("\n"), 9, c.code)
		check(c.ins, c.regs, num(7), -1, c.code)
		check(c.ins, c.regs, nil, impl.MaxSteps+1, c.code)
	}
	for _, c := range faulty() {
		for _, steps := range farSteps {
			check(emit, 0, c.v, steps, c.code)
			check(readCode("do 8; emit"), 1000, c.v, steps, c.code)
		}
	}
	for _, steps := range farSteps {
		if !stepsFit(steps) {
			check(emit, 0, num(7), steps, impl.ErrRange)
			check(readCode("do 8; emit"), 1000, null(), steps, impl.ErrRange)
			check(longCode(6000), 0, nested(20), steps, impl.ErrRange)
		}
		for _, regs := range []int64{-1, 1001, math.MinInt64, math.MaxInt64} {
			check(emit, regs, num(7), steps, impl.ErrRange)
			check(nil, regs, nil, steps, impl.ErrRange)
		}
	}
	// As many registers as there may be, and each of them.
	for _, regs := range []int64{1, 2, 999, 1000} {
		for _, register := range []int64{0, regs / 2, regs - 1} {
			ins := []in{{Op: impl.InStore, Arg: register}, {Op: impl.InLoad, Arg: register}, {Op: impl.InEmit}}
			checkTold(t, codeAs(ins), impl.RunFirst(ins, regs, num(7), 9), "7")
			ins[1].Arg = (register + 1) % regs
			if regs > 1 {
				checkTold(t, codeAs(ins), impl.RunFirst(ins, regs, num(7), 9), "null")
			}
		}
	}
	for _, v := range sound() {
		checkSteps(t, readCode("fork 1; emit"), 0, v)
		checkSteps(t, []in{{Op: impl.InPush, Val: v}, {Op: impl.InEmit}}, 0, null())
	}
}

// The first out; the code, where there is none; ErrNone, where that is 0.
func TestRunFirst(t *testing.T) {
	cases := []struct {
		ins, v string
		steps  int64
		want   string
	}{
		{"emit", "7", 9, "7"}, {"emit", "7", 1, "7"}, {"emit", "7", 0, "!8"}, {"emit", "null", 9, "null"}, {"emit", "false", 9, "false"}, {"back", "7", 9, "!4"}, {"back", "7", 1, "!4"}, {"back", "7", 0, "!8"}, {"each; emit", "[]", 9, "!4"}, {"each; emit", "[5]", 9, "5"}, {"each; emit", "[5,6,7]", 9, "5"}, {"each; emit", "7", 9, "!6"}, {"do 8; emit", "7", 9, "!1"}, {"try 2; do 8; emit", "7", 9, "!4"},
		// One, and a code or too few steps behind it.
		{"fork 2; emit; do 8; emit", "7", 9, "7"}, {"each; do 6; emit", "[1,true]", 9, "[0]"}, {"each; do 6; emit", "[true,1]", 9, "!6"}, {"fork 1; emit", "7", 2, "7"}, {"fork 1; emit", "7", 1, "!8"}, {"each; do 6; each; emit", "[0,3]", 99, "0"}, {"each; do 6; each; emit", "[199,199]", 9999, "0"},
	}
	for _, c := range cases {
		checkTold(t, c.ins+" of "+c.v, impl.RunFirst(readCode(c.ins), 0, val(c.v), c.steps), c.want)
	}
	full := append(slices.Repeat(readCode("dup"), 200), in{Op: impl.InEmit})
	checkTold(t, "full", impl.RunFirst(full, 0, num(7), 999), "!10")
	full = append(readCode("fork 2; emit"), full...)
	checkTold(t, "full behind one", impl.RunFirst(full, 0, num(7), 999), "7")
}

// Programs told by hand make what they make.
func TestRunTextOf(t *testing.T) {
	for _, c := range meanTexts() {
		got := impl.RunTextOf(c.program, c.input, 9000)
		made, _, _ := strings.Cut(ranAs(got), "~")
		if strings.TrimSpace(made) != c.want {
			t.Errorf("%s of %s: %s, want %s", c.program, c.input, made, c.want)
		}
		compiled := impl.CompileCore(impl.LowerTree(treeOf(c.program)).Core)
		checkSteps(t, compiled.Ins, compiled.Regs, val(c.input))
		for _, steps := range []int64{0, 1, got.Spent / 2, got.Spent - 1, got.Spent, got.Spent + 1, impl.MaxSteps} {
			if text, run := impl.RunTextOf(c.program, c.input, steps), impl.RunCode(compiled.Ins, compiled.Regs, val(c.input), steps); !sameRun(text, run) {
				t.Errorf("%s of %s with %d: %s, its code %s", c.program, c.input, steps, ranAs(text), ranAs(run))
			}
		}
	}
	spends := map[string]int64{".": 1, ". , .": 4, ".a": 6, "error": 1, "1": 3, "empty": 1, "(1,2)": 8, "[]": 3, "[.]": 8, ".[]?": 2, "try error": 2, ". // 1": 11, "$x": 0}
	for program, want := range spends {
		if got := impl.RunTextOf(program, "null", 1000); got.Spent != want {
			t.Errorf("%s: %s, want %d", program, ranAs(got), want)
		}
	}
}

// What cannot be read or run is told by the first code alone: the bytes of both
// texts, the program, its names, the input, the steps.
func TestRunTextCodes(t *testing.T) {
	long := strings.Repeat(" ", 4000)
	programs := map[string]int64{
		".": 0, "error": 0, "." + long[1:]: 0, long[1:] + "f": impl.ErrNone, "(": impl.ErrText, "": impl.ErrText, "#": impl.ErrText, long: impl.ErrText, "1 +": impl.ErrText, "10000000000000000": impl.ErrRange, strings.Repeat("(", 31) + "1": impl.ErrDeep, strings.Repeat("1,", 100) + "1": impl.ErrMany, strings.Repeat("1 ", 301): impl.ErrMany, `"` + strings.Repeat("x", 61) + `"`: impl.ErrMany, "$x": impl.ErrNone, "f": impl.ErrNone, ". as $x | $y": impl.ErrNone, "length(.)": impl.ErrNone, "$x (": impl.ErrText,
	}
	inputs := map[string]int64{
		"7": 0, "7" + long[1:]: 0, "[": impl.ErrText, "": impl.ErrText, long: impl.ErrText, "1 2": impl.ErrText, "1.5": impl.ErrRange, "10000000000000000": impl.ErrRange, strings.Repeat("[", 21): impl.ErrDeep, "[" + strings.Repeat("1,", 199) + "1]": impl.ErrMany, `"` + strings.Repeat("x", 61) + `"`: impl.ErrMany,
	}
	tooLong := []string{"." + long, long + "$x", long + "(", strings.Repeat("\xff", 100000)}
	for program, own := range programs {
		for input, its := range inputs {
			for _, steps := range farSteps {
				want := cmp.Or(own, its)
				if want == 0 && !stepsFit(steps) {
					want = impl.ErrRange
				}
				got := impl.RunTextOf(program, input, steps)
				if want == 0 {
					compiled := impl.CompileCore(impl.LowerTree(treeOf(program)).Core)
					if run := impl.RunCode(compiled.Ins, compiled.Regs, num(7), steps); !sameRun(got, run) || steps > 0 && got.Spent == 0 {
						t.Errorf("%s of %s with %d: %s, its code %s", short(program), short(input), steps, short(got), short(run))
					}
				} else if !reflect.DeepEqual(got, impl.RunResult{Code: want}) {
					t.Errorf("%s of %s with %d: %s, want %d", short(program), short(input), steps, short(got), want)
				}
			}
		}
		for _, text := range tooLong {
			for _, steps := range farSteps {
				for _, got := range []impl.RunResult{impl.RunTextOf(program, text, steps), impl.RunTextOf(text, "7", steps), impl.RunTextOf(text, "[", steps), impl.RunTextOf(text, text, steps)} {
					if !reflect.DeepEqual(got, impl.RunResult{Code: impl.ErrMany}) {
						t.Errorf("%s and one too long with %d: %s", short(program), steps, short(got))
					}
				}
			}
		}
	}
	// A run's own codes stand beside what it made and spent.
	for text, want := range map[string]string{"error": "!1 ~1", "1 , error": "1 !1 ~6", "1 , .a": "1 !6 ~10", "1 , range(200)": "1 !3 ~8", "1 , keys": "1 !6 ~6"} {
		if got := ranAs(impl.RunTextOf(text, "7", 100)); got != want {
			t.Errorf("%s: %s, want %s", text, got, want)
		}
	}
}
