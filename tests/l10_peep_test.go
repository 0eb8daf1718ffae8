package tests

import (
	"reflect"
	"slices"
	"strings"
	"testing"

	"loop.example/g00166/impl"
)

// checkPeep holds what is left of code against the model: that has no fault, and the
// heights that it had.
func checkPeep(t *testing.T, ins []in, regs int64) []in {
	t.Helper()
	got := impl.PeepCode(ins, regs)
	if want := modelCodeFault(ins, regs); want.code != 0 {
		if !reflect.DeepEqual(got, impl.CodeResult{Code: want.code, At: want.at}) {
			t.Fatalf("%s with %d: %s, want %v", short(codeAs(ins)), regs, short(got), want)
		}
		return nil
	}
	want := modelPeep(ins)
	if got.Code != 0 || got.At != 0 || got.Regs != regs || !slices.EqualFunc(got.Ins, want, sameIn) {
		t.Fatalf("%s with %d: %d, %d, %d, %s, want %s", short(codeAs(ins)), regs, got.Code, got.At, got.Regs, codeAs(got.Ins), codeAs(want))
	}
	if goesBehindAll(ins) {
		return nil
	}
	if fault := impl.CodeFault(got.Ins, got.Regs); fault.Code != 0 {
		t.Fatalf("%s with %d: %s has %v", short(codeAs(ins)), regs, codeAs(got.Ins), fault)
	}
	heights, stays := impl.HeightsOf(ins, regs).List, modelStays(ins)
	for at, height := range impl.HeightsOf(got.Ins, regs).List {
		if next := slices.Index(stays, true); heights[next] != height {
			t.Fatalf("%s with %d: %s has the height %d at %d", short(codeAs(ins)), regs, codeAs(got.Ins), height, at)
		} else {
			stays[next] = false
		}
	}
	return got.Ins
}

// checkSamePeep is P11 of code: what is left does the same with less. It tells
// whether that is promised: where the first one is not cut short by steps or room.
func checkSamePeep(t *testing.T, ins []in, regs int64, v cells) bool {
	t.Helper()
	kept := checkPeep(t, ins, regs)
	whole := impl.RunCode(ins, regs, v, impl.MaxSteps)
	if kept == nil || whole.Code == impl.ErrFuel || whole.Code == impl.ErrFull {
		return false
	}
	less := impl.RunCode(kept, regs, v, whole.Spent)
	if less.Code != whole.Code || !slices.EqualFunc(less.Outs, whole.Outs, slices.Equal) || !impl.SameRuns(less, whole) {
		t.Fatalf("%s of %s: %s, but %s: %s", short(codeAs(ins)), short(v), short(ranAs(whole)), short(codeAs(kept)), short(ranAs(less)))
	}
	// It goes the same way, but for what was left out.
	traces := [2]impl.TraceResult{impl.TraceCode(ins, regs, v, impl.MaxSteps), impl.TraceCode(kept, regs, v, impl.MaxSteps)}
	if traces[1].Stack > traces[0].Stack || traces[1].Forks != traces[0].Forks || less.Spent > whole.Spent {
		t.Fatalf("%s of %s: %s, but %s: %s", short(codeAs(ins)), short(v), short(tracedAs(traces[0])), short(codeAs(kept)), short(tracedAs(traces[1])))
	}
	stays := modelStays(ins)
	places := modelPlaces(stays)
	var way []int64
	for _, place := range traces[0].Places {
		if stays[place] {
			way = append(way, places[place])
		}
	}
	if len(traces[0].Places) < 1000 && !slices.Equal(way, traces[1].Places) {
		t.Fatalf("%s of %s: %s, but %s: %s", short(codeAs(ins)), short(v), short(tracedAs(traces[0])), short(codeAs(kept)), short(tracedAs(traces[1])))
	}
	return true
}

type peepCase struct{ ins, want string }

func checkPeeps(t *testing.T, cases []peepCase) {
	t.Helper()
	for _, c := range cases {
		for _, regs := range []int64{3, 1000} {
			got := impl.PeepCode(readCode(c.ins), regs)
			if got.Code != 0 || got.At != 0 || codeAs(got.Ins) != c.want || got.Regs != regs {
				t.Errorf("%s with %d: %d, %d, %s, %d, want %s", c.ins, regs, got.Code, got.At, codeAs(got.Ins), got.Regs, c.want)
			}
		}
		for _, v := range []cells{null(), num(1), val(`[[1],[2,3]]`)} {
			checkSamePeep(t, readCode(c.ins), 3, v)
		}
	}
}

// Each pair that is left out, and those that are not.
func TestPeepPairs(t *testing.T) {
	checkPeeps(t, []peepCase{
		{"emit", "emit"}, {"back", "back"}, {"dup; pop; emit", "emit"}, {"push 1; pop; emit", "emit"}, {"push [1,[2]]; pop; emit", "emit"}, {"load 2; pop; emit", "emit"}, {"dup; pop; back", "back"}, {"do 1; dup; pop; emit", "do 1; emit"}, {"dup; pop; do 1; emit", "do 1; emit"},
		{"pop; push 1; emit", "pop; push 1; emit"}, {"pop; load 1; emit", "pop; load 1; emit"}, {"dup; emit", "dup; emit"}, {"dup; dup; emit", "dup; dup; emit"}, {"dup; swap; pop; emit", "dup; swap; pop; emit"}, {"dup; swap; swap; pop; emit", "dup; swap; swap; pop; emit"}, {"pop; back", "pop; back"}, {"pop; push 1; push 2; emit", "pop; push 1; push 2; emit"},
		// A pop behind anything else.
		{"push 1; swap; pop; emit", "push 1; swap; pop; emit"}, {"dup; dup; bin 1; pop; emit", "dup; dup; bin 1; pop; emit"}, {"dup; dup; at; pop; emit", "dup; dup; at; pop; emit"}, {`dup; dup; member "k"; pop; emit`, `dup; dup; member "k"; pop; emit`}, {"dup; each; pop; emit", "dup; each; pop; emit"}, {"dup; do 1; pop; emit", "dup; do 1; pop; emit"}, {"dup; dup; store 0; pop; emit", "dup; dup; store 0; pop; emit"}, {"dup; dup; append 0; pop; emit", "dup; dup; append 0; pop; emit"}, {"dup; dup; unless 3; pop; back", "dup; dup; unless 3; pop; back"}, {"dup; fork 2; pop; back", "dup; fork 2; pop; back"}, {"dup; try 2; pop; emit", "dup; try 2; pop; emit"}, {"dup; alt 2; pop; emit", "dup; alt 2; pop; emit"}, {"dup; jump 2; pop; emit", "dup; jump 2; pop; emit"}, {"dup; dup; store 1; load 1; pop; pop; emit", "dup; dup; store 1; pop; emit"},
		// Behind one another.
		{"dup; pop; dup; pop; emit", "emit"}, {"push 1; pop; load 0; pop; dup; pop; emit", "emit"}, {"dup; pop; do 1; push 1; pop; emit", "do 1; emit"}, {"dup; pop; pop; push 2; emit", "pop; push 2; emit"}, {"dup; pop; dup; emit", "dup; emit"},
		// Within one another: what is behind is looked at from there on.
		{"dup; dup; pop; pop; emit", "dup; pop; emit"}, {"push 1; push 2; pop; pop; emit", "push 1; pop; emit"}, {"load 0; push 2; pop; pop; emit", "load 0; pop; emit"}, {"dup; load 1; pop; pop; emit", "dup; pop; emit"}, {"dup; dup; dup; pop; pop; pop; emit", "dup; dup; pop; pop; emit"}, {"dup; dup; pop; dup; pop; pop; emit", "dup; pop; emit"}, {"dup; push 1; pop; push 2; pop; pop; dup; pop; emit", "dup; pop; emit"}, {"dup; dup; pop; pop; dup; pop; emit", "dup; pop; emit"}, {"dup; dup; pop; emit", "dup; emit"},
		// At the end, where nothing comes to.
		{"back; dup; pop", "back"}, {"emit; push 1; pop", "emit"}, {"jump 2; back; emit; load 0; pop", "jump 2; back; emit"}, {"back; pop; dup", "back; pop; dup"}, {"emit; dup", "emit; dup"}, {"emit; pop", "emit; pop"},
	})
}

// A pair whose pop something goes to stays; one whose first instruction something
// goes to does not.
func TestPeepTargets(t *testing.T) {
	var cases []peepCase
	for _, first := range []string{"dup", "push 7", "load 1"} {
		for _, op := range []string{"jump", "fork", "try", "alt"} {
			cases = append(cases,
				peepCase{"dup; " + op + " 4; pop; " + first + "; pop; back", "dup; " + op + " 4; pop; " + first + "; pop; back"},
				peepCase{"dup; " + op + " 2; " + first + "; pop; back", "dup; " + op + " 2; back"},
				peepCase{"dup; " + op + " 4; " + first + "; pop; back", "dup; " + op + " 2; back"},
				// What is never done goes there, too.
				peepCase{"back; " + op + " 3; " + first + "; pop; back", "back; " + op + " 3; " + first + "; pop; back"},
				peepCase{"back; " + op + " 2; " + first + "; pop; back", "back; " + op + " 2; back"},
				peepCase{"back; " + op + " 3; " + first + "; pop; " + first + "; pop; back", "back; " + op + " 3; " + first + "; pop; back"},
				// Two go there: one of them is enough.
				peepCase{"back; " + op + " 3; " + first + "; pop; try 5; back", "back; " + op + " 3; " + first + "; pop; try 5; back"},
				peepCase{"back; fork 2; " + op + " 4; " + first + "; pop; back", "back; fork 2; " + op + " 4; " + first + "; pop; back"},
			)
		}
		cases = append(cases, peepCase{"dup; unless 2; " + first + "; pop; emit", "dup; unless 2; emit"}, peepCase{"dup; unless 4; " + first + "; pop; emit", "dup; unless 2; emit"}, peepCase{"dup; dup; unless 5; pop; " + first + "; pop; back", "dup; dup; unless 5; pop; " + first + "; pop; back"}, peepCase{"back; unless 3; " + first + "; pop; emit", "back; unless 3; " + first + "; pop; emit"})
	}
	// Numbers that are no places: registers, ops and dos.
	cases = append(cases,
		peepCase{"store 2; load 2; pop; back", "store 2; back"}, peepCase{"do 2; dup; pop; emit", "do 2; emit"}, peepCase{"dup; bin 3; dup; pop; emit", "dup; bin 3; emit"}, peepCase{"append 2; load 1; pop; back", "append 2; back"}, peepCase{"load 1; pop; emit", "emit"},
	)
	for _, c := range cases {
		if modelCodeFault(readCode(c.ins), 3).code != 0 {
			t.Errorf("%s has a fault", c.ins)
		}
	}
	checkPeeps(t, cases)
}

// Args told anew: ahead of, at, between and behind what is left out. Registers, ops
// and dos stay.
func TestPeepArgs(t *testing.T) {
	var cases []peepCase
	for _, op := range []string{"jump", "fork", "try", "alt"} {
		cases = append(cases,
			peepCase{op + " 1; do 3; dup; pop; emit", op + " 1; do 3; emit"}, peepCase{op + " 2; do 3; dup; pop; emit", op + " 2; do 3; emit"}, peepCase{op + " 4; do 3; dup; pop; emit", op + " 2; do 3; emit"},
			peepCase{"dup; pop; " + op + " 3; do 3; emit", op + " 1; do 3; emit"}, peepCase{"dup; pop; " + op + " 4; do 3; emit", op + " 2; do 3; emit"},
			// Between two pairs, and at the first of several.
			peepCase{op + " 3; dup; pop; do 3; dup; pop; emit", op + " 1; do 3; emit"}, peepCase{op + " 4; dup; pop; do 3; dup; pop; emit", op + " 2; do 3; emit"}, peepCase{op + " 6; dup; pop; do 3; dup; pop; emit", op + " 2; do 3; emit"}, peepCase{op + " 1; dup; pop; push 1; pop; do 3; emit", op + " 1; do 3; emit"}, peepCase{op + " 3; dup; pop; push 1; pop; do 3; emit", op + " 1; do 3; emit"}, peepCase{op + " 5; dup; pop; push 1; pop; do 3; emit", op + " 1; do 3; emit"}, peepCase{op + " 6; dup; pop; push 1; pop; do 3; emit", op + " 2; do 3; emit"}, peepCase{"dup; pop; " + op + " 5; dup; pop; load 0; pop; emit", op + " 1; emit"},
			peepCase{op + " 2; " + op + " 4; dup; pop; " + op + " 7; dup; pop; emit", op + " 2; " + op + " 2; " + op + " 3; emit"},
		)
	}
	cases = append(cases,
		peepCase{"dup; unless 4; dup; pop; emit", "dup; unless 2; emit"}, peepCase{"dup; pop; dup; unless 7; do 3; push 1; pop; emit", "dup; unless 3; do 3; emit"}, peepCase{"dup; unless 3; do 3; dup; pop; emit", "dup; unless 3; do 3; emit"}, peepCase{"dup; unless 2; dup; pop; do 3; emit", "dup; unless 2; do 3; emit"},
		peepCase{"dup; pop; store 2; load 1; store 2; load 2; dup; bin 2; do 3; append 1; back", "store 2; load 1; store 2; load 2; dup; bin 2; do 3; append 1; back"}, peepCase{"dup; pop; push [1]; store 2; fork 7; append 2; back; load 2; emit", "push [1]; store 2; fork 5; append 2; back; load 2; emit"},
		peepCase{`dup; pop; dup; dup; pop; member "k"; push 3; pop; emit`, `dup; member "k"; emit`}, peepCase{"dup; pop; push [2,1]; do 4; emit", "push [2,1]; do 4; emit"},
		// A try and an alt are about what they were about.
		peepCase{"try 4; dup; pop; do 8; emit", "try 2; do 8; emit"}, peepCase{"try 3; dup; pop; do 8; emit", "try 1; do 8; emit"}, peepCase{"alt 4; dup; pop; do 8; emit", "alt 2; do 8; emit"}, peepCase{"alt 5; do 8; dup; pop; emit; push 1; pop; emit", "alt 3; do 8; emit; emit"}, peepCase{"try 2; do 8; dup; pop; do 8; emit", "try 2; do 8; do 8; emit"},
		// Goes to the pair at the end, where none stays: never done.
		peepCase{"back; jump 2; dup; pop", "back; jump 2"}, peepCase{"emit; fork 3; back; push 1; pop", "emit; fork 3; back"},
	)
	checkPeeps(t, cases)
}

func TestPeepFaults(t *testing.T) {
	for _, c := range faultyCodes() {
		if got := impl.PeepCode(c.ins, c.regs); !reflect.DeepEqual(got, impl.CodeResult{Code: c.code, At: c.at}) {
			t.Errorf("%s with %d: %s, want %v", short(codeAs(c.ins)), c.regs, short(got), c.fault)
		}
	}
	for _, c := range heightCases() {
		checkPeep(t, readCode(c.ins), 2)
	}
	for _, regs := range []int64{0, 1, 999, 1000} {
		for _, n := range []int{1, 2, 5999, 6000} {
			if got := impl.PeepCode(longCode(n), regs); got.Code != 0 || got.Regs != regs || len(got.Ins) != n {
				t.Errorf("%d with %d: %s", n, regs, short(got))
			}
		}
	}
}

// As much code as there may be.
func TestPeepLongCode(t *testing.T) {
	emit := readCode("emit")
	pairs := slices.Repeat(readCode("dup; pop"), 2999)
	if got := impl.PeepCode(slices.Concat(pairs, emit), 0); codeAs(got.Ins) != "emit" {
		t.Error(short(got))
	}
	far := slices.Concat([]in{{Op: impl.InFork, Arg: 5999}}, pairs, emit)
	if got := impl.PeepCode(far, 0); codeAs(got.Ins) != "fork 1; emit" {
		t.Error(short(got))
	}
	// Half of it, within one another: one pair goes.
	deep := slices.Concat(slices.Repeat(readCode("dup"), 2999), slices.Repeat(readCode("pop"), 2999), emit)
	if got := impl.PeepCode(deep, 0); len(got.Ins) != 5997 || got.Ins[2998].Op != impl.InPop || got.Ins[2997].Op != impl.InDup {
		t.Error(short(got))
	}
	// Each other one goes to the end, and so do those that are left.
	var mixed []in
	for range 1499 {
		mixed = append(mixed, in{Op: impl.InTry, Arg: 5999}, in{Op: impl.InDo, Arg: 3}, in{Op: impl.InLoad, Arg: 999}, in{Op: impl.InPop})
	}
	mixed = append(mixed, readCode("do 3; do 3; do 3; emit")...)
	if got := impl.PeepCode(mixed, 1000); len(mixed) != 6000 || len(got.Ins) != 3002 || got.Ins[0].Arg != 3001 || got.Ins[2996].Arg != 3001 || got.Regs != 1000 {
		t.Error(short(got))
	}
}

// All short code of these instructions, against the model and as it is run (P11).
func TestPeepShortCodeAgainstModel(t *testing.T) {
	sets := map[string]struct {
		words string
		size  int
	}{
		"each kind": {`dup pop push=[1,2] swap bin=1 at each do=1 member="k" jump unless fork try alt back store=0 load=0 append=0 emit`, 4},
		"pairs":     {"dup pop push=1 load=0 emit", 7},
		"targets":   {"dup pop jump fork back emit", 5},
		"caught":    {"dup pop try alt do=8 emit", 5},
		"choices":   {"dup pop push=null unless each emit", 5},
	}
	for name, set := range sets {
		t.Run(name, func(t *testing.T) {
			t.Parallel()
			ran, left := 0, 0
			for size := 1; size <= set.size; size++ {
				shortCode(strings.Fields(set.words), size, nil, func(ins []in) {
					kept := checkPeep(t, ins, 1)
					if kept == nil {
						return
					}
					ran++
					if len(kept) < len(ins) {
						left++
						for _, v := range []cells{val("[[1,2],null]"), null()} {
							checkSamePeep(t, ins, 1, v)
						}
					}
				})
			}
			if ran < 400 || left < 100 {
				t.Error(ran, left)
			}
		})
	}
}

// pairedCode is code in which pairs are put between the instructions, so that what
// goes somewhere goes ahead of them or behind them.
func (d *dice) pairedCode(ins []in) []in {
	var places []int64
	var wide []in
	pairs := [][]in{readCode("dup; pop"), readCode("push [1,2]; pop"), readCode("load 1; pop")}
	heights, _ := modelHeights(ins)
	for at, i := range ins {
		place := int64(len(wide))
		for range d.below(3) {
			pair := pairs[d.below(3)]
			// There must be something that can be laid once more.
			if heights[at] < 1 {
				pair = pairs[1]
			}
			if d.below(4) == 0 {
				pair = slices.Insert(slices.Clone(pair), 1, pairs[1]...)
			}
			wide = append(wide, pair...)
		}
		if d.below(2) == 0 {
			place = int64(len(wide))
		}
		places = append(places, place)
		wide = append(wide, i)
	}
	for at, i := range wide {
		if i.Op >= impl.InJump && i.Op <= impl.InAlt {
			wide[at].Arg = places[i.Arg]
		}
	}
	return wide
}

// P11 of longer code, with pairs in it.
func TestPeepThrownCode(t *testing.T) {
	values := []cells{val("[[1,2],null,[3,[4]]]"), num(2), val(`{"k":[[],[5]]}`)}
	for part := range 4 {
		t.Run(string(rune('a'+part)), func(t *testing.T) {
			t.Parallel()
			d := dice(200 + part)
			asked, left, codes := 0, 0, map[int64]int{}
			for range 4000 {
				ins := d.code(4 + d.below(30))
				if d.below(4) > 0 {
					ins = d.pairedCode(ins)
				}
				v := values[d.below(3)]
				if !checkSamePeep(t, ins, 2, v) {
					continue
				}
				asked++
				left += len(ins) - len(impl.PeepCode(ins, 2).Ins)
				codes[impl.RunCode(ins, 2, v, impl.MaxSteps).Code]++
			}
			if asked < 3500 || left < 20000 || codes[0] < 500 || codes[impl.ErrForm] < 50 || codes[impl.ErrKind] < 50 {
				t.Error(asked, left, codes)
			}
		})
	}
}
