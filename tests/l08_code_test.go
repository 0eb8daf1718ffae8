package tests

import (
	"reflect"
	"slices"
	"strconv"
	"strings"
	"testing"

	"loop.example/g00166/impl"
)

func TestCodeConstants(t *testing.T) {
	got := []int64{impl.InDup, impl.InPop, impl.InPush, impl.InSwap, impl.InBin, impl.InAt, impl.InEach, impl.InDo, impl.InMember, impl.InJump, impl.InUnless, impl.InFork, impl.InTry, impl.InAlt, impl.InBack, impl.InStore, impl.InLoad, impl.InAppend, impl.InEmit, impl.MaxCode, impl.MaxRegs}
	want := []int64{1, 2, 3, 4, 5, 6, 7, 8, 9, 10, 11, 12, 13, 14, 15, 16, 17, 18, 19, 6000, 1000}
	if !slices.Equal(got, want) {
		t.Error(got)
	}
}

// compiled is an answer as a text: the code, "%" and how many registers there are.
func compiled(r impl.CodeResult) string {
	if r.Code != 0 {
		return code(r.Code) + strings.Repeat(" and more", min(1, len(r.Ins)+int(r.At|r.Regs)))
	}
	return codeAs(r.Ins) + " %" + strconv.FormatInt(r.At+r.Regs, 10)
}

// checkCompile holds the code of a core against the model, and what is told of
// that code; it has no fault (P9).
func checkCompile(t *testing.T, w *twig) impl.CodeResult {
	t.Helper()
	got := impl.CompileCore(w.nodes())
	ins, regs := modelCompile(w)
	if len(ins) > 6000 || regs > 1000 {
		if !reflect.DeepEqual(got, impl.CodeResult{Code: impl.ErrMany}) {
			t.Fatalf("%s: %s, want %d", short(w), short(compiled(got)), impl.ErrMany)
		}
		return got
	}
	want := impl.CodeResult{Ins: ins, Regs: regs}
	if compiled(got) != compiled(want) {
		t.Fatalf("%s: %s, want %s", short(w), compiled(got), compiled(want))
	}
	if fault := impl.CodeFault(got.Ins, got.Regs); !reflect.DeepEqual(fault, impl.CodeResult{}) {
		t.Fatalf("%s: %s has %v", short(w), short(compiled(got)), fault)
	}
	checkCode(t, got.Ins, got.Regs)
	return got
}

type compileCase struct{ core, want string }

func checkCompiled(t *testing.T, cases []compileCase) {
	t.Helper()
	for _, c := range cases {
		w := readTwig(c.core)
		if got := compiled(impl.CompileCore(w.nodes())); got != c.want {
			t.Errorf("%s: %s, want %s", c.core, got, c.want)
		}
		checkCompile(t, w)
	}
}

// The code of each op, told by hand.
func TestCompileNodes(t *testing.T) {
	checkCompiled(t, []compileCase{
		{"self", "emit %0"}, {"const=1", "pop; push 1; emit %0"}, {"const=null", "pop; push null; emit %0"}, {`const={"a":[1,"x"]}`, `pop; push {"a":[1,"x"]}; emit %0`}, {"empty", "back; emit %0"},
		{"do:1", "do 1; emit %0"}, {"do:2", "do 2; emit %0"}, {"do:3", "do 3; emit %0"}, {"do:4", "do 4; emit %0"}, {"do:5", "do 5; emit %0"}, {"do:6", "do 6; emit %0"}, {"do:7", "do 7; emit %0"}, {"do:8", "do 8; emit %0"},
		{"pipe(do:1 do:2)", "do 1; do 2; emit %0"}, {"pipe(self self)", "emit %0"}, {"pipe(self const=1)", "pop; push 1; emit %0"}, {"pipe(pipe(do:1 do:2) pipe(do:3 do:4))", "do 1; do 2; do 3; do 4; emit %0"},
		{"comma(do:1 do:2)", "fork 3; do 1; jump 4; do 2; emit %0"}, {"comma(self self)", "fork 2; jump 2; emit %0"}, {"comma(empty const=1)", "fork 3; back; jump 5; pop; push 1; emit %0"},
		{"bin:2(do:1 do:2)", "dup; do 2; swap; do 1; bin 2; emit %0"}, {"bin:11(self self)", "dup; swap; bin 11; emit %0"}, {"bin:1(const=1 self)", "dup; swap; pop; push 1; bin 1; emit %0"}, {"bin:1(self const=1)", "dup; pop; push 1; swap; bin 1; emit %0"},
		{"at(do:1 do:2)", "dup; do 1; swap; do 2; at; emit %0"}, {`at(self const="a")`, `dup; swap; pop; push "a"; at; emit %0`}, {`member="k"(do:1 do:2)`, `dup; do 1; swap; do 2; member "k"; emit %0`}, {`member=""(const={} self)`, `dup; pop; push {}; swap; member ""; emit %0`},
		{"each(do:2)", "do 2; each; emit %0"}, {"each(self)", "each; emit %0"}, {"each(each(self))", "each; each; emit %0"}, {"try(do:1)", "try 2; do 1; emit %0"}, {"try(self)", "try 1; emit %0"}, {"try(try(do:1))", "try 3; try 3; do 1; emit %0"}, {"pipe(try(do:1) do:2)", "try 2; do 1; do 2; emit %0"},
		{"list(do:1)", "push []; store 0; fork 6; do 1; append 0; back; pop; load 0; emit %1"}, {"list(self)", "push []; store 0; fork 5; append 0; back; pop; load 0; emit %1"},
		{"if(do:1 do:2 do:3)", "dup; do 1; unless 5; do 2; jump 6; do 3; emit %0"}, {"if(self self self)", "dup; unless 3; jump 3; emit %0"}, {"if(self self empty)", "dup; unless 3; jump 4; back; emit %0"},
		{"as:0(do:1 var:0)", "dup; do 1; store 0; pop; load 0; emit %1"}, {"as:59(self self)", "dup; store 0; emit %1"},
		{"reduce:0(do:1 do:2 var:0)", "dup; do 2; store 0; fork 13; do 1; store 1; load 0; push null; store 0; pop; load 1; store 0; back; pop; load 0; emit %2"}, {"reduce:0(self self self)", "dup; store 0; fork 9; store 1; load 0; push null; store 0; store 0; back; pop; load 0; emit %2"},
		{"alt(do:1 do:2)", "push false; store 0; alt 10; do 1; dup; unless 9; push true; store 0; jump 14; back; load 0; unless 13; back; do 2; emit %1"}, {"alt(self self)", "push false; store 0; alt 9; dup; unless 8; push true; store 0; jump 12; back; load 0; unless 12; back; emit %1"},
	})
	for op := range int64(11) {
		number := strconv.FormatInt(op+1, 10)
		if got := compiled(impl.CompileCore(readTwig("bin:" + number + "(self self)").nodes())); got != "dup; swap; bin "+number+"; emit %0" {
			t.Error(got)
		}
	}
}

// Places of jumps that are within one another.
func TestCompilePlaces(t *testing.T) {
	checkCompiled(t, []compileCase{
		{"comma(comma(do:1 do:2) do:3)", "fork 6; fork 4; do 1; jump 5; do 2; jump 7; do 3; emit %0"}, {"comma(do:1 comma(do:2 do:3))", "fork 3; do 1; jump 7; fork 6; do 2; jump 7; do 3; emit %0"},
		{"if(if(do:1 do:2 do:3) do:4 do:5)", "dup; dup; do 1; unless 6; do 2; jump 7; do 3; unless 10; do 4; jump 11; do 5; emit %0"}, {"if(do:1 if(do:2 do:3 do:4) do:5)", "dup; do 1; unless 10; dup; do 2; unless 8; do 3; jump 9; do 4; jump 11; do 5; emit %0"}, {"if(do:1 do:2 if(do:3 do:4 do:5))", "dup; do 1; unless 5; do 2; jump 11; dup; do 3; unless 10; do 4; jump 11; do 5; emit %0"},
		{"try(comma(do:1 try(do:2)))", "try 6; fork 4; do 1; jump 6; try 6; do 2; emit %0"}, {"comma(try(do:1) do:2)", "fork 4; try 3; do 1; jump 5; do 2; emit %0"}, {"list(comma(do:1 do:2))", "push []; store 0; fork 9; fork 6; do 1; jump 7; do 2; append 0; back; pop; load 0; emit %1"}, {"pipe(comma(do:1 do:2) comma(do:3 do:4))", "fork 3; do 1; jump 4; do 2; fork 7; do 3; jump 8; do 4; emit %0"},
		{"alt(comma(do:1 do:2) try(do:3))", "push false; store 0; alt 13; fork 6; do 1; jump 7; do 2; dup; unless 12; push true; store 0; jump 18; back; load 0; unless 16; back; try 18; do 3; emit %1"},
	})
}

// A node's registers are named ahead of those of what it is made of, and these in
// the order of the code.
func TestCompileRegisters(t *testing.T) {
	one := func(n int) string { return "push []; store " + strconv.Itoa(n) }
	cases := map[string][]int{
		"list(list(self))": {0, 1}, "list(list(list(self)))": {0, 1, 2}, "comma(list(self) list(self))": {0, 1}, "pipe(list(self) list(self))": {0, 1}, "bin:1(list(self) list(self))": {0, 1}, "at(list(self) list(self))": {0, 1}, `member="k"(list(self) list(self))`: {0, 1}, "if(list(self) list(self) list(self))": {0, 1, 2}, "each(list(self))": {0}, "try(list(self))": {0},
		"as:0(list(self) list(self))": {1, 2}, "as:0(as:1(list(self) list(self)) list(self))": {2, 3, 4}, "reduce:0(list(self) list(self) list(self))": {2, 3, 4}, "alt(list(self) list(self))": {1, 2}, "alt(alt(list(self) list(self)) list(self))": {2, 3, 4}, "comma(reduce:0(self self self) list(self))": {2}, "comma(as:0(self self) list(self))": {1}, "comma(alt(self self) list(self))": {1}, "list(reduce:0(list(self) self self))": {0, 3}, "comma(list(list(self)) list(self))": {0, 1, 2},
	}
	for text, want := range cases {
		r := checkCompile(t, readTwig(text))
		made := codeAs(r.Ins)
		last := -1
		for _, n := range want {
			// The lists stand in the code in the order of their registers.
			at := strings.Index(made, one(n)+";")
			if at <= last {
				t.Errorf("%s: %s, want %s behind %d", text, made, one(n), last)
			}
			last = at
		}
		if strings.Count(made, "push []") != len(want) {
			t.Errorf("%s: %s, want %d lists", text, made, len(want))
		}
	}
	// The second part of a bin is made first.
	checkCompiled(t, []compileCase{
		{"bin:1(list(do:1) list(do:2))", "dup; push []; store 0; fork 7; do 2; append 0; back; pop; load 0; swap; push []; store 1; fork 16; do 1; append 1; back; pop; load 1; bin 1; emit %2"},
		{"at(list(do:1) list(do:2))", "dup; push []; store 0; fork 7; do 1; append 0; back; pop; load 0; swap; push []; store 1; fork 16; do 2; append 1; back; pop; load 1; at; emit %2"},
		{"bin:1(as:0(do:1 var:0) as:0(do:2 var:0))", "dup; dup; do 2; store 0; pop; load 0; swap; dup; do 1; store 1; pop; load 1; bin 1; emit %2"},
		// So is that of a reduce.
		{"reduce:0(as:0(do:1 var:0) as:0(do:2 var:0) as:1(do:3 var:0))", "dup; dup; do 2; store 2; pop; load 2; store 0; fork 24; dup; do 1; store 3; pop; load 3; store 1; load 0; push null; store 0; dup; do 3; store 4; pop; load 1; store 0; back; pop; load 0; emit %5"},
		{"alt(as:0(do:1 var:0) as:0(do:2 var:0))", "push false; store 0; alt 14; dup; do 1; store 1; pop; load 1; dup; unless 13; push true; store 0; jump 22; back; load 0; unless 17; back; dup; do 2; store 2; pop; load 2; emit %3"},
	})
}

// loads are the registers that are loaded right behind a pop of which no list or
// state is the cause: those of variables, in order.
func loads(ins []in) []int64 {
	var list []int64
	for at, i := range ins {
		if i.Op == impl.InLoad && ins[at-1].Op == impl.InPop && !(at > 1 && ins[at-2].Op == impl.InBack) {
			list = append(list, i.Arg)
		}
	}
	return list
}

// A variable is in the register of the innermost node about it that has its slot.
func TestCompileVariables(t *testing.T) {
	cases := map[string][]int64{
		"as:0(self var:0)": {0}, "as:59(self var:59)": {0}, "as:0(self comma(var:0 var:0))": {0, 0}, "as:0(self as:1(self comma(var:0 var:1)))": {0, 1}, "as:1(self as:0(self comma(var:0 var:1)))": {1, 0},
		// One slot within itself, and beside itself.
		"as:0(self as:0(self var:0))": {1}, "as:0(self as:0(var:0 var:0))": {0, 1}, "as:0(as:0(self var:0) var:0)": {1, 0}, "as:0(self comma(as:0(self var:0) var:0))": {1, 0}, "as:0(self comma(var:0 as:0(self var:0)))": {0, 1}, "comma(as:0(self var:0) as:0(self var:0))": {0, 1}, "as:0(self pipe(as:0(var:0 as:0(var:0 var:0)) var:0))": {0, 1, 2, 0}, "as:7(self bin:1(as:7(var:7 var:7) var:7))": {0, 0, 1},
		// Of a reduce: in C alone, behind its state; B ahead of A.
		"reduce:0(self self var:0)": {1}, "as:0(self reduce:0(var:0 var:0 var:0))": {0, 0, 2}, "as:3(self reduce:4(var:3 var:3 comma(var:3 var:4)))": {0, 0, 0, 2}, "reduce:0(self self reduce:0(var:0 var:0 var:0))": {1, 1, 3}, "reduce:0(self self reduce:1(var:0 var:0 bin:1(var:0 var:1)))": {1, 1, 3, 1}, "reduce:0(reduce:0(self self var:0) reduce:0(self self var:0) var:0)": {3, 5, 1}, "as:0(self comma(reduce:0(self self self) var:0))": {0}, "list(as:0(list(self) var:0))": {1}, "alt(as:0(self var:0) as:0(alt(self self) var:0))": {1, 2},
	}
	for text, want := range cases {
		r := checkCompile(t, readTwig(text))
		if got := loads(r.Ins); !slices.Equal(got, want) {
			t.Errorf("%s: %v of %s, want %v", text, got, codeAs(r.Ins), want)
		}
	}
	// As many slots as there are, within one another, and all asked.
	sum := tw(impl.CoreVar)
	for slot := range int64(59) {
		sum = tw(impl.CoreBin, sum, tw(impl.CoreVar).numbered(slot+1)).numbered(impl.OpAdd)
	}
	for slot := range int64(60) {
		sum = tw(impl.CoreAs, tw(impl.CoreSelf), sum).numbered(slot)
	}
	r := checkCompile(t, sum)
	var want []int64
	for register := range int64(60) {
		want = append(want, register)
	}
	if got := loads(r.Ins); !slices.Equal(got, want) || r.Regs != 60 {
		t.Error(got, r.Regs)
	}
}

// The document's own example, and programs.
func TestCompilePrograms(t *testing.T) {
	if got := compiled(impl.CompileCore(impl.LowerTree(treeOf(".a")).Core)); got != `dup; swap; pop; push "a"; at; emit %0` {
		t.Error(got)
	}
	for _, c := range meanTexts() {
		checkCompile(t, twigOf(impl.LowerTree(treeOf(c.program)).Core))
	}
	for _, one := range oneCoreOfEach() {
		checkCompile(t, one)
	}
	for _, v := range sound() {
		checkCompile(t, tw(impl.CoreConst).valued(v))
	}
	for _, key := range []string{"", "k", `"\`, strings.Repeat("k", 60)} {
		checkCompile(t, tw(impl.CoreMember, tw(impl.CoreSelf), tw(impl.CoreSelf)).valued(str(key)))
	}
}

// Every op over every choice of parts.
func TestCompilePartsAgainstModel(t *testing.T) {
	parts := []string{"self", "const=1", "empty", "do:3", "pipe(do:1 do:2)", "comma(self const=2)", "bin:1(self self)", `at(self const="k")`, `member="k"(const={} self)`, "each(self)", "try(do:8)", "list(self)", "if(self self empty)", "reduce:0(self self var:0)", "as:1(self var:1)", "alt(self const=1)"}
	var pool []*twig
	for _, part := range parts {
		pool = append(pool, readTwig(part))
	}
	for _, head := range coreHeads() {
		listed := func(x *twig) *twig { return tw(impl.CoreList, x) }
		everyChoice(head, pool, listed, func(w *twig) { checkCompile(t, w) })
	}
}

// All small cores with these heads, those without a fault.
func TestCompileSmallCoresAgainstModel(t *testing.T) {
	sets := map[string]struct {
		heads string
		size  int
	}{
		"each kind": {`self const=1 pipe comma alt bin:1 at each try list member="k" if reduce:0 as:0 var:0 do:1 empty`, 5},
		"registers": {"self list alt reduce:0 as:0 bin:1 var:0", 7},
		"slots":     {"self as:0 as:1 var:0 var:1 reduce:0", 7},
		"jumps":     {"do:1 empty comma try if alt", 7},
	}
	for name, set := range sets {
		t.Run(name, func(t *testing.T) {
			t.Parallel()
			ran := 0
			smallSound(set.heads, set.size, func(w *twig) {
				checkCompile(t, w)
				ran++
			})
			if ran < 500 {
				t.Error(ran)
			}
		})
	}
}

// joinedBy are those, joined by nodes of one op as evenly as can be.
func joinedBy(op int64, list []*twig) *twig {
	if len(list) == 1 {
		return list[0]
	}
	half := len(list) / 2
	return tw(op, joinedBy(op, list[:half]), joinedBy(op, list[half:]))
}

// As deep and as wide as a core may be.
func TestCompileGreatCores(t *testing.T) {
	for _, head := range coreHeads() {
		for _, w := range grownCore(head, 120) {
			checkCompile(t, w)
		}
	}
	checkCompile(t, wideCore(450))
	// 449 alts have 5388 instructions, what is to be emitted one.
	one, do, self := readTwig("const=1"), readTwig("do:1"), readTwig("self")
	for count := 5990; count <= 6010; count++ {
		rest := count - 5389
		leaves := slices.Concat(slices.Repeat([]*twig{one}, rest/2), slices.Repeat([]*twig{do}, rest%2), slices.Repeat([]*twig{self}, 450-rest/2-rest%2))
		w := joinedBy(impl.CoreAlt, leaves)
		r := checkCompile(t, w)
		if count <= 6000 && (len(r.Ins) != count || r.Regs != 449) || count > 6000 && r.Code != impl.ErrMany {
			t.Errorf("%d: %d, %d, %d", count, r.Code, len(r.Ins), r.Regs)
		}
	}
	checkCompile(t, joinedBy(impl.CoreAlt, slices.Repeat([]*twig{one}, 450)))
	// No core comes to more than 1000 registers; with more lists than these it
	// comes to too many instructions first.
	for _, lists := range []int{106, 107, 108} {
		chain := self
		for range lists {
			chain = tw(impl.CoreList, chain)
		}
		r := checkCompile(t, joinedBy(impl.CoreComma, slices.Repeat([]*twig{chain}, 8)))
		if lists == 106 && (r.Regs != 848 || len(r.Ins) != 5951) || lists > 106 && r.Code != impl.ErrMany {
			t.Errorf("%d: %d, %d, %d", lists, r.Code, len(r.Ins), r.Regs)
		}
	}
	// The most nodes of each op that names registers.
	for _, text := range []string{"list(self)", "alt(self self)", "as:5(self self)", "reduce:5(self self self)"} {
		head := readTwig(text)
		leaves := slices.Repeat([]*twig{head}, 900/(len(head.kids)+2))
		checkCompile(t, joinedBy(impl.CorePipe, leaves))
	}
}

// A core's fault is all that is told.
func TestCompileFaults(t *testing.T) {
	for _, c := range faultyCores() {
		if got := impl.CompileCore(c.core); !reflect.DeepEqual(got, impl.CodeResult{Code: c.code}) {
			t.Errorf("%s: %s, want %d", short(c.core), short(got), c.code)
		}
	}
}
