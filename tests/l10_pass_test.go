package tests

import (
	"math"
	"reflect"
	"slices"
	"strconv"
	"strings"
	"testing"

	"loop.example/g00166/impl"
)

func TestPassConstants(t *testing.T) {
	if got := []int64{impl.PassFold, impl.PassPipe, impl.PassDead, impl.PassTry}; !slices.Equal(got, []int64{1, 2, 3, 4}) {
		t.Error(got)
	}
}

// onePass is what the function of this pass answers.
func onePass(pass int64, list []core) impl.PassResult {
	switch pass {
	case impl.PassFold:
		return impl.FoldCore(list)
	case impl.PassPipe:
		return impl.PipeCore(list)
	case impl.PassDead:
		return impl.DeadCore(list)
	}
	return impl.TryCore(list)
}

// checkPasses holds each pass by itself against the model. What comes is no longer,
// by a node at least each time; the same pass finds nothing in it any more.
func checkPasses(t *testing.T, w *twig) {
	t.Helper()
	list := w.nodes()
	for _, pass := range allPasses {
		got, want := onePass(pass, list), modelPassed(w, []int64{pass})
		if !samePass(got, want) {
			t.Fatalf("pass %d of %s: %s, want %s", pass, short(w), passedAs(got), passedAs(want))
		}
		if fault := modelCoreFault(got.Core); fault != 0 || int64(len(got.Core)) > int64(len(list))-got.Did {
			t.Fatalf("pass %d of %s: %s has %d and %d nodes", pass, short(w), short(passedAs(got)), fault, len(got.Core))
		}
		if got.Did == 0 && !sameCores(got.Core, list) {
			t.Fatalf("pass %d of %s: %s", pass, short(w), passedAs(got))
		}
		if again := onePass(pass, got.Core); !samePass(again, impl.PassResult{Core: got.Core}) {
			t.Fatalf("pass %d of %s: %s, again %s", pass, short(w), passedAs(got), passedAs(again))
		}
	}
}

type passCase struct{ core, want string }

// checkPassed holds a pass against what is told by hand, and all passes against
// the model.
func checkPassed(t *testing.T, pass int64, cases []passCase) {
	t.Helper()
	for _, c := range cases {
		w := readTwig(c.core)
		if got := passedAs(onePass(pass, w.nodes())); got != c.want {
			t.Errorf("%s: %s, want %s", c.core, got, c.want)
		}
		if got := passedAs(modelPassed(w, []int64{pass})); got != c.want {
			t.Errorf("%s: the model has %s, want %s", c.core, got, c.want)
		}
		checkPasses(t, w)
	}
}

func TestFoldCore(t *testing.T) {
	checkPassed(t, impl.PassFold, []passCase{
		{"self", "self *0"}, {"const=1", "const=1 *0"}, {"empty", "empty *0"}, {"do:1", "do:1 *0"},
		// Two constants, without a code and with one.
		{"bin:1(const=1 const=2)", "const=3 *1"}, {"bin:2(const=1 const=2)", "const=-1 *1"}, {"bin:3(const=4 const=5)", "const=20 *1"}, {"bin:4(const=1 const=1)", "const=true *1"}, {"bin:5(const=1 const=1)", "const=false *1"}, {"bin:6(const=1 const=2)", "const=true *1"}, {"bin:7(const=2 const=1)", "const=false *1"}, {"bin:8(const=[] const={})", "const=false *1"}, {"bin:9(const=null const=null)", "const=true *1"}, {"bin:10(const=7 const=2)", "const=3 *1"}, {"bin:11(const=7 const=2)", "const=1 *1"}, {"bin:1(const=null const=[1])", "const=[1] *1"}, {"bin:1(const={\"a\":1} const={\"b\":2})", `const={"a":1,"b":2} *1`}, {"bin:2(const=[1,2,1] const=[1])", "const=[2] *1"}, {`bin:1(const="a" const="b")`, `const="ab" *1`},
		{`bin:1(const=1 const="a")`, `bin:1(const=1 const="a") *0`}, {"bin:10(const=1 const=0)", "bin:10(const=1 const=0) *0"}, {"bin:11(const=1 const=0)", "bin:11(const=1 const=0) *0"}, {"bin:3(const=[] const=1)", "bin:3(const=[] const=1) *0"},
		{`at(const={"a":[1]} const="a")`, "const=[1] *1"}, {`at(const={"a":[1]} const="b")`, "const=null *1"}, {"at(const=[5,6] const=1)", "const=6 *1"}, {"at(const=null const=1)", "const=null *1"}, {"at(const=1 const=[5,6])", "at(const=1 const=[5,6]) *0"}, {"at(const=[5] const=\"a\")", `at(const=[5] const="a") *0`}, {"at(const=[5] const=[5])", "at(const=[5] const=[5]) *0"},
		{`member="k"(const={} const=1)`, `const={"k":1} *1`}, {`member="k"(const=null const=[1])`, `const={"k":[1]} *1`}, {`member="k"(const={"k":1,"z":2} const=3)`, `const={"k":3,"z":2} *1`}, {`member=""(const={} const={})`, `const={"":{}} *1`}, {`member="k"(const=[] const=1)`, `member="k"(const=[] const=1) *0`}, {`member="k"(const="k" const={})`, `member="k"(const="k" const={}) *0`},
		// One constant, or none.
		{"bin:1(const=1 self)", "bin:1(const=1 self) *0"}, {"bin:1(self const=1)", "bin:1(self const=1) *0"}, {"bin:1(self self)", "bin:1(self self) *0"}, {"bin:1(const=1 empty)", "bin:1(const=1 empty) *0"}, {`at(self const="a")`, `at(self const="a") *0`}, {"at(const=[1] self)", "at(const=[1] self) *0"}, {`member="k"(const={} self)`, `member="k"(const={} self) *0`}, {`member="k"(self const=1)`, `member="k"(self const=1) *0`},
		// An if, whatever its B and C are.
		{"if(const=1 do:1 do:2)", "do:1 *1"}, {"if(const=true self empty)", "self *1"}, {"if(const=null do:1 do:2)", "do:2 *1"}, {"if(const=false self empty)", "empty *1"}, {"if(const=0 do:1 do:2)", "do:1 *1"}, {`if(const="" do:1 do:2)`, "do:1 *1"}, {"if(const=[] do:1 do:2)", "do:1 *1"}, {"if(const={} do:1 do:2)", "do:1 *1"}, {"if(const=[null] comma(do:1 do:2) do:3)", "comma(do:1 do:2) *1"}, {"if(const=null do:1 pipe(do:2 do:3))", "pipe(do:2 do:3) *1"}, {"if(self const=1 const=2)", "if(self const=1 const=2) *0"}, {"if(empty const=1 const=2)", "if(empty const=1 const=2) *0"}, {"if(do:1 const=1 const=1)", "if(do:1 const=1 const=1) *0"},
		{"list(const=1)", "const=[1] *1"}, {"list(const=[])", "const=[[]] *1"}, {`list(const={"a":[1,2]})`, `const=[{"a":[1,2]}] *1`}, {"list(empty)", "const=[] *1"}, {"list(self)", "list(self) *0"}, {"list(comma(const=1 const=2))", "list(comma(const=1 const=2)) *0"}, {"list(do:1)", "list(do:1) *0"},
		// What another pass does.
		{"pipe(self const=1)", "pipe(self const=1) *0"}, {"pipe(const=1 do:1)", "pipe(const=1 do:1) *0"}, {"comma(empty const=1)", "comma(empty const=1) *0"}, {"alt(const=1 const=2)", "alt(const=1 const=2) *0"}, {"try(const=1)", "try(const=1) *0"}, {"each(const=[1])", "each(const=[1]) *0"}, {"as:0(const=1 var:0)", "as:0(const=1 var:0) *0"}, {"reduce:0(const=1 const=2 var:0)", "reduce:0(const=1 const=2 var:0) *0"},
		// Those that fit once their own parts went through it.
		{"bin:1(const=1 bin:3(const=2 const=3))", "const=7 *2"}, {"bin:1(bin:1(const=1 const=2) bin:1(const=3 const=4))", "const=10 *3"}, {"list(list(list(empty)))", "const=[[[]]] *3"}, {"if(bin:4(const=1 const=2) do:1 list(const=1))", "const=[1] *3"}, {"list(if(const=1 empty self))", "const=[] *2"}, {"at(list(const=5) if(const=null self const=0))", "const=5 *3"}, {`member="a"(member="b"(const={} const=1) list(const=2))`, `const={"a":[2],"b":1} *3`}, {"if(if(const=1 const=null const=2) do:1 do:2)", "do:2 *2"},
		// Those that do not, beside some that do.
		{"bin:1(bin:1(const=1 self) bin:1(const=1 const=1))", "bin:1(bin:1(const=1 self) const=2) *1"}, {"bin:1(bin:10(const=1 const=0) const=1)", "bin:1(bin:10(const=1 const=0) const=1) *0"}, {"list(bin:1(const=1 const=[]))", "list(bin:1(const=1 const=[])) *0"}, {"comma(list(const=1) list(empty))", "comma(const=[1] const=[]) *2"},
		// What is done in a part that is left out then.
		{"if(const=1 do:1 list(const=1))", "do:1 *2"}, {"if(const=null bin:1(const=1 list(const=1)) do:2)", "do:2 *2"}, {"if(const=1 if(const=2 do:1 do:2) if(const=null do:3 list(empty)))", "do:1 *4"},
	})
}

func TestPipeCore(t *testing.T) {
	checkPassed(t, impl.PassPipe, []passCase{
		{"pipe(self do:1)", "do:1 *1"}, {"pipe(do:1 self)", "do:1 *1"}, {"pipe(self self)", "self *1"}, {"pipe(self comma(do:1 do:2))", "comma(do:1 do:2) *1"}, {"pipe(comma(do:1 do:2) self)", "comma(do:1 do:2) *1"}, {"pipe(self empty)", "empty *1"}, {"pipe(empty self)", "empty *1"}, {"pipe(const=1 self)", "const=1 *1"}, {"pipe(self const=1)", "const=1 *1"}, {"pipe(const=1 const=2)", "const=2 *1"}, {"pipe(const=1 const=1)", "const=1 *1"}, {"pipe(const=null const=[])", "const=[] *1"},
		// What is done with a constant, without a code and with one.
		{`pipe(const="ab" do:1)`, "const=2 *1"}, {`pipe(const={"b":1,"a":2} do:2)`, `const=["a","b"] *1`}, {"pipe(const=1 do:3)", `const="number" *1`}, {"pipe(const=[2,1] do:4)", "const=[1,2] *1"}, {"pipe(const=[2,1] do:5)", "const=3 *1"}, {"pipe(const=3 do:6)", "const=[0,1,2] *1"}, {"pipe(const=[1] do:7)", "const=[[1],1] *1"}, {"pipe(const=199 do:6)", "const=" + told(made(numbersUpTo(199))) + " *1"},
		{"pipe(const=true do:1)", "pipe(const=true do:1) *0"}, {"pipe(const=1 do:2)", "pipe(const=1 do:2) *0"}, {"pipe(const=1 do:4)", "pipe(const=1 do:4) *0"}, {`pipe(const=[1,"a"] do:5)`, `pipe(const=[1,"a"] do:5) *0`}, {"pipe(const=200 do:6)", "pipe(const=200 do:6) *0"}, {`pipe(const="a" do:6)`, `pipe(const="a" do:6) *0`}, {"pipe(const=1 do:8)", "pipe(const=1 do:8) *0"},
		{"pipe(do:1 do:2)", "pipe(do:1 do:2) *0"}, {"pipe(do:1 const=1)", "pipe(do:1 const=1) *0"}, {"pipe(const=1 empty)", "pipe(const=1 empty) *0"}, {"pipe(empty const=1)", "pipe(empty const=1) *0"}, {"pipe(const=[1] each(self))", "pipe(const=[1] each(self)) *0"}, {"pipe(const=1 comma(const=1 const=2))", "pipe(const=1 comma(const=1 const=2)) *0"}, {"as:0(self pipe(var:0 const=1))", "as:0(self pipe(var:0 const=1)) *0"}, {"as:0(self pipe(const=1 var:0))", "as:0(self pipe(const=1 var:0)) *0"},
		{"comma(self self)", "comma(self self) *0"}, {"alt(self self)", "alt(self self) *0"}, {"bin:1(const=1 const=2)", "bin:1(const=1 const=2) *0"}, {"list(const=1)", "list(const=1) *0"}, {"if(const=1 self self)", "if(const=1 self self) *0"}, {"try(self)", "try(self) *0"},
		// Those that fit once their own parts went through it.
		{"pipe(pipe(self self) pipe(self self))", "self *3"}, {"pipe(pipe(const=1 const=2) pipe(do:1 self))", "const=2 *3"}, {"pipe(pipe(const=[3,1] do:4) do:5)", "const=4 *2"}, {"pipe(const=[3,1] pipe(do:4 do:5))", "pipe(const=[3,1] pipe(do:4 do:5)) *0"}, {"pipe(const=1 pipe(self const=2))", "const=2 *2"}, {"pipe(pipe(self do:1) do:2)", "pipe(do:1 do:2) *1"}, {"pipe(pipe(const=1 do:8) self)", "pipe(const=1 do:8) *1"}, {"pipe(pipe(const=1 do:8) do:1)", "pipe(pipe(const=1 do:8) do:1) *0"}, {"pipe(do:1 pipe(do:2 pipe(self do:3)))", "pipe(do:1 pipe(do:2 do:3)) *1"},
		{"pipe(pipe(const=3 self) const=4)", "const=4 *2"}, {"comma(pipe(self do:1) pipe(do:2 self))", "comma(do:1 do:2) *2"}, {"list(pipe(each(self) pipe(self self)))", "list(each(self)) *2"}, {"if(pipe(self do:1) pipe(self do:2) pipe(do:3 self))", "if(do:1 do:2 do:3) *3"}, {"reduce:0(pipe(self do:2) pipe(self do:1) pipe(self var:0))", "reduce:0(do:2 do:1 var:0) *3"},
		// What is done in a part that is left out then.
		{"pipe(pipe(self const=1) pipe(const=2 const=3))", "const=3 *3"},
	})
}

func TestDeadCore(t *testing.T) {
	checkPassed(t, impl.PassDead, []passCase{
		{"pipe(empty do:1)", "empty *1"}, {"each(empty)", "empty *1"}, {"try(empty)", "empty *1"}, {"if(empty do:1 do:2)", "empty *1"}, {"as:0(empty var:0)", "empty *1"}, {"at(empty self)", "empty *1"}, {`member="k"(empty self)`, "empty *1"}, {"bin:1(self empty)", "empty *1"}, {"reduce:0(self empty var:0)", "empty *1"},
		{"comma(empty do:1)", "do:1 *1"}, {"comma(do:1 empty)", "do:1 *1"}, {"comma(empty empty)", "empty *1"}, {"comma(empty comma(do:1 do:2))", "comma(do:1 do:2) *1"}, {"comma(comma(do:1 do:2) empty)", "comma(do:1 do:2) *1"},
		{"alt(empty do:1)", "do:1 *1"}, {"alt(empty empty)", "empty *1"}, {"alt(const=1 do:1)", "const=1 *1"}, {"alt(const=null do:1)", "do:1 *1"}, {"alt(const=false do:1)", "do:1 *1"}, {"alt(const=true empty)", "const=true *1"}, {"alt(const=0 do:1)", "const=0 *1"}, {`alt(const="" do:1)`, `const="" *1`}, {"alt(const=[] do:1)", "const=[] *1"}, {"alt(const={} do:1)", "const={} *1"}, {"alt(const=[null] const=2)", "const=[null] *1"}, {"alt(const=null const=false)", "const=false *1"}, {"alt(const=false empty)", "empty *1"}, {"alt(const=null comma(do:1 do:2))", "comma(do:1 do:2) *1"},
		// Another part is empty.
		{"pipe(do:1 empty)", "pipe(do:1 empty) *0"}, {"if(self empty empty)", "if(self empty empty) *0"}, {"as:0(self empty)", "as:0(self empty) *0"}, {"at(self empty)", "at(self empty) *0"}, {`member="k"(self empty)`, `member="k"(self empty) *0`}, {"bin:1(empty self)", "bin:1(empty self) *0"}, {"reduce:0(empty self self)", "reduce:0(empty self self) *0"}, {"reduce:0(self self empty)", "reduce:0(self self empty) *0"}, {"alt(do:1 empty)", "alt(do:1 empty) *0"}, {"list(empty)", "list(empty) *0"},
		// None is.
		{"pipe(self self)", "pipe(self self) *0"}, {"each(self)", "each(self) *0"}, {"try(self)", "try(self) *0"}, {"if(const=1 self self)", "if(const=1 self self) *0"}, {"as:0(self var:0)", "as:0(self var:0) *0"}, {"at(const=[] const=1)", "at(const=[] const=1) *0"}, {`member="k"(const={} const=1)`, `member="k"(const={} const=1) *0`}, {"bin:1(const=1 const=2)", "bin:1(const=1 const=2) *0"}, {"comma(const=1 const=null)", "comma(const=1 const=null) *0"}, {"alt(self const=1)", "alt(self const=1) *0"}, {"alt(do:1 self)", "alt(do:1 self) *0"}, {"alt(comma(const=1 const=2) do:1)", "alt(comma(const=1 const=2) do:1) *0"}, {"reduce:0(self self self)", "reduce:0(self self self) *0"},
		// Those that fit once their own parts went through it.
		{"pipe(pipe(pipe(empty self) self) self)", "empty *3"}, {"each(try(each(empty)))", "empty *3"}, {"if(as:0(at(empty self) var:0) self self)", "empty *3"}, {`member="k"(bin:1(self reduce:3(self empty self)) self)`, "empty *3"}, {"alt(comma(empty const=null) alt(const=1 empty))", "const=1 *3"}, {"alt(alt(const=false const=2) do:1)", "const=2 *2"}, {"comma(comma(empty do:1) comma(do:2 empty))", "comma(do:1 do:2) *2"}, {"alt(alt(empty do:1) do:2)", "alt(do:1 do:2) *1"}, {"list(each(empty))", "list(empty) *1"},
		// What is done in a part that is left out then.
		{"pipe(empty comma(empty self))", "empty *2"}, {"if(empty each(empty) try(empty))", "empty *3"}, {"alt(const=1 comma(empty each(empty)))", "const=1 *3"}, {"bin:1(each(empty) try(empty))", "empty *3"}, {"reduce:0(each(empty) comma(empty empty) try(empty))", "empty *4"}, {"comma(each(empty) pipe(empty self))", "empty *3"},
	})
}

func TestTryCore(t *testing.T) {
	checkPassed(t, impl.PassTry, []passCase{
		{"try(const=1)", "const=1 *1"}, {"try(const=null)", "const=null *1"}, {"try(self)", "self *1"}, {"as:0(self try(var:0))", "as:0(self var:0) *1"}, {"as:7(self as:8(self try(var:7)))", "as:7(self as:8(self var:7)) *1"}, {"try(empty)", "empty *1"}, {"try(try(do:1))", "try(do:1) *1"}, {"try(try(try(do:8)))", "try(do:8) *2"}, {"try(try(try(self)))", "self *3"},
		{"try(do:1)", "try(do:1) *0"}, {"try(do:3)", "try(do:3) *0"}, {"try(do:8)", "try(do:8) *0"}, {"try(pipe(self self))", "try(pipe(self self)) *0"}, {"try(comma(self self))", "try(comma(self self)) *0"}, {"try(alt(self self))", "try(alt(self self)) *0"}, {"try(bin:4(self self))", "try(bin:4(self self)) *0"}, {"try(at(self const=1))", "try(at(self const=1)) *0"}, {"try(each(self))", "try(each(self)) *0"}, {"try(list(empty))", "try(list(empty)) *0"}, {`try(member="k"(const={} self))`, `try(member="k"(const={} self)) *0`}, {"try(if(self self self))", "try(if(self self self)) *0"}, {"try(reduce:0(self self var:0))", "try(reduce:0(self self var:0)) *0"}, {"try(as:0(self var:0))", "try(as:0(self var:0)) *0"},
		{"pipe(try(self) try(do:1))", "pipe(self try(do:1)) *1"}, {"comma(try(const=1) try(empty))", "comma(const=1 empty) *2"}, {"try(pipe(try(self) try(const=1)))", "try(pipe(self const=1)) *2"}, {"reduce:0(try(self) try(const=1) try(var:0))", "reduce:0(self const=1 var:0) *3"}, {"alt(try(empty) try(const=1))", "alt(empty const=1) *2"}, {"each(try(each(try(self))))", "each(try(each(self))) *1"}, {"list(try(try(do:2)))", "list(try(do:2)) *1"},
		// None at all.
		{"pipe(self self)", "pipe(self self) *0"}, {"if(const=1 empty self)", "if(const=1 empty self) *0"}, {"bin:1(const=1 const=1)", "bin:1(const=1 const=1) *0"}, {"comma(empty empty)", "comma(empty empty) *0"},
	})
}

// A value that is made at the greatest number of cells, at the greatest depth and
// at the bounds of numbers and strings, and one more.
func TestFoldBounds(t *testing.T) {
	constant := func(v cells) *twig { return tw(impl.CoreConst).valued(v) }
	wide, long := objectOf(0, 198), str(strings.Repeat("x", 60))
	full := arr(numbersUpTo(198))
	fits := map[*twig]bool{
		tw(impl.CoreList, constant(numbersUpTo(197))): true, tw(impl.CoreList, constant(numbersUpTo(198))): true, tw(impl.CoreList, constant(numbersUpTo(199))): false, tw(impl.CoreList, constant(full)): false,
		tw(impl.CoreList, constant(nested(18))): true, tw(impl.CoreList, constant(nested(19))): true, tw(impl.CoreList, constant(nested(20))): false, tw(impl.CoreList, constant(long)): true,
	}
	member := func(a, b cells, key string) *twig {
		return tw(impl.CoreMember, constant(a), constant(b)).valued(str(key))
	}
	for w, want := range map[*twig]bool{
		member(wide, num(1), "k"): true, member(wide, arr(), "k"): true, member(wide, arr(num(1)), "k"): false, member(objectOf(0, 199), num(1), "k"): false, member(objectOf(0, 199), num(1), "k1000"): true, member(objectOf(0, 199), arr(num(1)), "k1000"): false,
		member(obj(), nested(18), "k"): true, member(obj(), nested(19), "k"): true, member(null(), nested(19), "k"): true, member(obj(), nested(20), "k"): false, member(null(), nested(20), "k"): false, member(null(), numbersUpTo(198), "k"): true, member(null(), numbersUpTo(199), "k"): false, member(null(), num(1), long[0].Text): true,
	} {
		fits[w] = want
	}
	bin := func(op int64, a, b cells) *twig {
		return tw(impl.CoreBin, constant(a), constant(b)).numbered(op)
	}
	for w, want := range map[*twig]bool{
		bin(impl.OpAdd, num(impl.MaxNumber), num(0)): true, bin(impl.OpAdd, num(impl.MaxNumber), num(1)): false, bin(impl.OpSub, num(-impl.MaxNumber), num(1)): false, bin(impl.OpMul, num(impl.MaxNumber), num(-1)): true, bin(impl.OpMul, num(impl.MaxNumber), num(2)): false, bin(impl.OpAdd, long, str("")): true, bin(impl.OpAdd, long, str("x")): false,
		bin(impl.OpAdd, numbersUpTo(199), arr()): true, bin(impl.OpAdd, numbersUpTo(199), arr(null())): false, bin(impl.OpAdd, wide, obj()): true, bin(impl.OpAdd, objectOf(0, 199), objectOf(199, 1)): false, bin(impl.OpEq, numbersUpTo(199), numbersUpTo(199)): true,
	} {
		fits[w] = want
	}
	for w, want := range fits {
		got := impl.FoldCore(w.nodes())
		if is := got.Did == 1 && len(got.Core) == 1 && got.Core[0].Op == impl.CoreConst; is != want || !want && (got.Did != 0 || !sameCores(got.Core, w.nodes())) {
			t.Errorf("%s: %s, want %t", short(w), short(passedAs(got)), want)
		}
		checkPasses(t, w)
	}
	natives := map[string]bool{"do:7": false, "do:1": true, "do:4": true, "do:5": true, "do:2": true, "do:3": true}
	for do, want := range natives {
		w := tw(impl.CorePipe, constant(numbersUpTo(199)), readTwig(do))
		if got := impl.PipeCore(w.nodes()); (got.Did == 1 && len(got.Core) == 1) != want || !want && got.Did != 0 {
			t.Errorf("%s: %s, want %t", do, short(passedAs(got)), want)
		}
		checkPasses(t, w)
	}
}

// What is left out is not there any more, and the places behind it are told anew.
func TestPassPlaces(t *testing.T) {
	cases := []struct {
		pass       int64
		core, want string
	}{
		{impl.PassFold, "comma(bin:1(const=1 const=2) comma(self do:1))", "0 2 0 0 0 0 3;1 1 0 0 0 0 -;2 16 0 0 0 1 -;3 4 1 2 0 0 -;4 4 0 3 0 0 -;"},
		{impl.PassFold, "comma(comma(self do:1) bin:1(const=1 const=2))", "0 1 0 0 0 0 -;1 16 0 0 0 1 -;2 4 0 1 0 0 -;3 2 0 0 0 0 3;4 4 2 3 0 0 -;"},
		{impl.PassFold, "if(self list(const=1) list(empty))", "0 1 0 0 0 0 -;1 2 0 0 0 0 [1];2 2 0 0 0 0 [];3 12 0 1 2 0 -;"},
		{impl.PassFold, "comma(if(const=1 pipe(self do:1) comma(do:2 do:3)) each(do:4))", "0 1 0 0 0 0 -;1 16 0 0 0 1 -;2 3 0 1 0 0 -;3 16 0 0 0 4 -;4 8 3 0 0 0 -;5 4 2 4 0 0 -;"},
		{impl.PassFold, "comma(if(const=null pipe(self do:1) comma(do:2 do:3)) each(do:4))", "0 16 0 0 0 2 -;1 16 0 0 0 3 -;2 4 0 1 0 0 -;3 16 0 0 0 4 -;4 8 3 0 0 0 -;5 4 2 4 0 0 -;"},
		{impl.PassPipe, "reduce:5(pipe(self do:1) pipe(do:2 self) pipe(self var:5))", "0 16 0 0 0 1 -;1 16 0 0 0 2 -;2 15 0 0 0 5 -;3 13 0 1 2 5 -;"},
		{impl.PassPipe, "as:2(self pipe(self as:3(var:2 bin:1(var:3 var:2))))", "0 1 0 0 0 0 -;1 15 0 0 0 2 -;2 15 0 0 0 3 -;3 15 0 0 0 2 -;4 6 2 3 0 1 -;5 14 1 4 0 3 -;6 14 0 5 0 2 -;"},
		{impl.PassDead, `comma(as:0(empty comma(var:0 var:0)) member="k"(self const=[1]))`, `0 1 0 0 0 0 -;1 2 0 0 0 0 [1];2 11 0 1 0 0 "k";`},
		{impl.PassDead, "list(comma(pipe(empty self) alt(const=null each(self))))", "0 1 0 0 0 0 -;1 8 0 0 0 0 -;2 10 1 0 0 0 -;"},
		{impl.PassDead, "pipe(do:1 if(pipe(empty do:2) do:3 do:4))", "0 16 0 0 0 1 -;1 17 0 0 0 0 -;2 3 0 1 0 0 -;"},
		{impl.PassTry, "at(try(self) comma(try(try(do:1)) try(const=2)))", "0 1 0 0 0 0 -;1 16 0 0 0 1 -;2 9 1 0 0 0 -;3 2 0 0 0 0 2;4 4 2 3 0 0 -;5 7 0 4 0 0 -;"},
	}
	for _, c := range cases {
		w := readTwig(c.core)
		got := onePass(c.pass, w.nodes())
		if text := modelCoreText(got.Core); text.Code != 0 || strings.ReplaceAll(text.Text, "\n", ";") != c.want {
			t.Errorf("%d of %s: %v, want %s", c.pass, c.core, text, c.want)
		}
		checkPasses(t, w)
	}
}

// Every op over every choice of parts: those that fit, those that do not, and those
// that do once they went through the pass themselves.
func TestPassPartsAgainstModel(t *testing.T) {
	parts := []string{"self", "const=1", "const=null", "const=false", "const=[2,3]", `const={"a":1}`, `const="a"`, "empty", "do:1", "do:8", "try(self)", "try(do:1)", "pipe(self empty)", "pipe(const=4 do:3)", "comma(empty const=null)", "list(const=1)", "list(empty)", "if(const=1 empty self)", "if(const=false empty self)", "alt(const=null const=5)", "bin:1(const=1 const=2)", "bin:1(self empty)", "each(self)", "each(empty)"}
	var pool []*twig
	for _, part := range parts {
		pool = append(pool, readTwig(part))
	}
	for _, head := range headsOfEveryBin() {
		t.Run(head.named()+" "+strconv.FormatInt(head.num, 10), func(t *testing.T) {
			t.Parallel()
			tried := func(x *twig) *twig { return tw(impl.CoreTry, x) }
			everyChoice(head, pool, tried, func(w *twig) { checkPasses(t, w) })
		})
	}
}

// As deep and as wide as a core may be; how many nodes there are, and how often
// something is done.
func TestPassGreatCores(t *testing.T) {
	for _, head := range coreHeads() {
		for _, depth := range []int{1, 2, 119, 120} {
			for _, w := range grownCore(head, depth) {
				checkPasses(t, w)
			}
		}
	}
	checkPasses(t, wideCore(450))
	chain := func(op, leaf int64) []core { return tw(op, replacedLeaf(op, leaf, 119)).nodes() }
	for pass, list := range map[int64][]core{impl.PassTry: chain(impl.CoreTry, impl.CoreSelf), impl.PassDead: chain(impl.CoreEach, impl.CoreEmpty)} {
		if got := onePass(pass, list); got.Did != 119 || len(got.Core) != 1 || len(list) != 120 {
			t.Errorf("%d: %s of %d", pass, short(passedAs(got)), len(list))
		}
	}
	one, self, empty := readTwig("const=1"), readTwig("self"), readTwig("empty")
	joined := map[string]struct {
		pass int64
		w    *twig
		want string
	}{
		"selves": {impl.PassPipe, joinedBy(impl.CorePipe, slices.Repeat([]*twig{self}, 450)), "self *449"},
		"ones":   {impl.PassPipe, joinedBy(impl.CorePipe, slices.Repeat([]*twig{one}, 450)), "const=1 *449"},
		"empty":  {impl.PassDead, joinedBy(impl.CoreComma, slices.Repeat([]*twig{empty}, 450)), "empty *449"},
		"alts":   {impl.PassDead, joinedBy(impl.CoreAlt, slices.Repeat([]*twig{one}, 450)), "const=1 *449"},
		"none":   {impl.PassFold, joinedBy(impl.CorePipe, slices.Repeat([]*twig{self}, 450)), ""},
	}
	for name, c := range joined {
		list := c.w.nodes()
		if c.want == "" {
			c.want = c.w.String() + " *0"
		}
		if got := passedAs(onePass(c.pass, list)); got != c.want || len(list) != 899 {
			t.Errorf("%s: %s, want %s", name, short(got), short(c.want))
		}
		checkPasses(t, c.w)
	}
	// The sum of as many ones as there may be.
	var sum func(list []*twig) *twig
	sum = func(list []*twig) *twig {
		if len(list) == 1 {
			return list[0]
		}
		return tw(impl.CoreBin, sum(list[:len(list)/2]), sum(list[len(list)/2:])).numbered(impl.OpAdd)
	}
	if got := passedAs(impl.FoldCore(sum(slices.Repeat([]*twig{one}, 450)).nodes())); got != "const=450 *449" {
		t.Error(short(got))
	}
}

// replacedLeaf is a chain of nodes of one op, as many with its leaf as depth.
func replacedLeaf(op, leaf int64, depth int) *twig {
	w := tw(leaf)
	for range depth - 1 {
		w = tw(op, w)
	}
	return w
}

func TestSizeOf(t *testing.T) {
	for nodes := 1; nodes <= 899; nodes += 2 {
		list := wideCore((nodes + 1) / 2).nodes()
		if got := impl.SizeOf(list); got != (impl.IntResult{Value: int64(nodes)}) {
			t.Errorf("%d: %v", nodes, got)
		}
	}
	most := tw(impl.CoreTry, wideCore(450)).nodes()
	if got := impl.SizeOf(most); got != (impl.IntResult{Value: 900}) {
		t.Error(got)
	}
	if got := impl.SizeOf(wideCore(451).nodes()); got != (impl.IntResult{Code: impl.ErrMany}) {
		t.Error(got)
	}
	for _, one := range oneCoreOfEach() {
		if got := impl.SizeOf(one.nodes()); got != (impl.IntResult{Value: int64(len(one.nodes()))}) {
			t.Errorf("%s: %v", one, got)
		}
	}
}

// The codes, and which comes first.
func TestPassCodes(t *testing.T) {
	for _, c := range faultyCores() {
		want := impl.PassResult{Code: c.code}
		for _, pass := range allPasses {
			if got := onePass(pass, c.core); !reflect.DeepEqual(got, want) {
				t.Errorf("pass %d of %s: %s, want %d", pass, short(c.core), short(got), c.code)
			}
		}
		for _, passes := range [][]int64{nil, {1}, {2, 3}, {0}, {5}, slices.Repeat([]int64{1}, 20), slices.Repeat([]int64{1}, 21), slices.Repeat([]int64{9}, 21)} {
			if got := impl.RunPasses(c.core, passes); !reflect.DeepEqual(got, want) {
				t.Errorf("%v of %s: %s, want %d", passes, short(c.core), short(got), c.code)
			}
		}
		if got := impl.SizeOf(c.core); got != (impl.IntResult{Code: c.code}) {
			t.Errorf("%s: %v, want %d", short(c.core), got, c.code)
		}
	}
	list := readTwig("pipe(self const=1)").nodes()
	cases := []struct {
		passes []int64
		code   int64
	}{
		{nil, 0}, {[]int64{}, 0}, {[]int64{1}, 0}, {[]int64{2}, 0}, {[]int64{3}, 0}, {[]int64{4}, 0}, {slices.Repeat([]int64{4}, 19), 0}, {slices.Repeat([]int64{4}, 20), 0}, {slices.Repeat([]int64{4}, 21), impl.ErrMany}, {slices.Repeat([]int64{4}, 22), impl.ErrMany}, {slices.Repeat([]int64{1}, 100000), impl.ErrMany}, {slices.Repeat([]int64{0}, 21), impl.ErrMany}, {append(slices.Repeat([]int64{1}, 20), 5), impl.ErrMany}, {append([]int64{-1}, slices.Repeat([]int64{1}, 20)...), impl.ErrMany},
		{[]int64{0}, impl.ErrRange}, {[]int64{5}, impl.ErrRange}, {[]int64{-1}, impl.ErrRange}, {[]int64{math.MinInt64}, impl.ErrRange}, {[]int64{math.MaxInt64}, impl.ErrRange}, {[]int64{1, 2, 3, 4, 5}, impl.ErrRange}, {[]int64{0, 1}, impl.ErrRange}, {[]int64{1, 0, 1}, impl.ErrRange}, {append(slices.Repeat([]int64{1}, 19), 5), impl.ErrRange}, {append(slices.Repeat([]int64{1}, 19), 0), impl.ErrRange}, {slices.Repeat([]int64{1 << 32}, 20), impl.ErrRange},
	}
	for _, c := range cases {
		got := impl.RunPasses(list, c.passes)
		if got.Code != c.code || c.code != 0 && !reflect.DeepEqual(got, impl.PassResult{Code: c.code}) {
			t.Errorf("%s: %s, want %d", short(c.passes), short(got), c.code)
		}
		if c.code == 0 && !samePass(got, modelPassed(readTwig("pipe(self const=1)"), c.passes)) {
			t.Errorf("%s: %s", short(c.passes), passedAs(got))
		}
	}
}

// passLists are all lists of no more than that many passes.
func passLists(most int) [][]int64 {
	lists := [][]int64{nil}
	for from := 0; most > 0; most-- {
		end := len(lists)
		for _, list := range lists[from:end] {
			for _, pass := range allPasses {
				lists = append(lists, append(slices.Clone(list), pass))
			}
		}
		from = end
	}
	return lists
}

// The passes one behind the other, in every order, and Did of all together.
func TestRunPasses(t *testing.T) {
	cases := []struct{ core, passes, want string }{
		{"pipe(self bin:1(const=1 bin:3(const=2 const=3)))", "", "pipe(self bin:1(const=1 bin:3(const=2 const=3))) *0"}, {"pipe(self bin:1(const=1 bin:3(const=2 const=3)))", "12", "const=7 *3"}, {"pipe(self bin:1(const=1 bin:3(const=2 const=3)))", "21", "const=7 *3"}, {"pipe(self bin:1(const=1 bin:3(const=2 const=3)))", "34", "pipe(self bin:1(const=1 bin:3(const=2 const=3))) *0"}, {"pipe(self bin:1(const=1 bin:3(const=2 const=3)))", "2", "bin:1(const=1 bin:3(const=2 const=3)) *1"},
		// The order is to be seen.
		{"list(pipe(const=1 do:3))", "12", `list(const="number") *1`}, {"list(pipe(const=1 do:3))", "21", `const=["number"] *2`}, {"list(pipe(const=1 do:3))", "121", `const=["number"] *2`}, {"try(comma(empty self))", "43", "try(self) *1"}, {"try(comma(empty self))", "34", "self *2"}, {"try(comma(empty self))", "434", "self *2"}, {"if(alt(const=null const=1) try(self) do:1)", "134", "if(const=1 self do:1) *2"}, {"if(alt(const=null const=1) try(self) do:1)", "314", "self *3"}, {"if(alt(const=null const=1) try(self) do:1)", "413", "if(const=1 self do:1) *2"}, {"if(alt(const=null const=1) try(self) do:1)", "4131", "self *3"},
		// One pass over and over.
		{"pipe(self self)", "2", "self *1"}, {"pipe(self self)", "2222222222", "self *1"}, {"list(list(empty))", "11", "const=[[]] *2"}, {"try(try(do:1))", "4444", "try(do:1) *1"}, {"each(comma(empty empty))", "333", "empty *2"},
		{"pipe(try(list(empty)) if(const=1 do:1 alt(const=2 empty)))", "1234123", "const=0 *4"}, {"pipe(try(list(empty)) if(const=1 do:1 alt(const=2 empty)))", "1234", "pipe(const=[] do:1) *3"},
	}
	for _, c := range cases {
		var passes []int64
		for _, digit := range c.passes {
			passes = append(passes, int64(digit-'0'))
		}
		if got := passedAs(impl.RunPasses(readTwig(c.core).nodes(), passes)); got != c.want {
			t.Errorf("%s of %s: %s, want %s", c.passes, c.core, got, c.want)
		}
	}
	lists := passLists(4)
	if len(lists) != 341 {
		t.Error(len(lists))
	}
	made := map[string]bool{}
	for _, c := range cases {
		w := readTwig(c.core)
		for _, passes := range lists {
			got := impl.RunPasses(w.nodes(), passes)
			if want := modelPassed(w, passes); !samePass(got, want) {
				t.Errorf("%v of %s: %s, want %s", passes, c.core, passedAs(got), passedAs(want))
			}
			byOne := impl.PassResult{Core: w.nodes()}
			for _, pass := range passes {
				next := onePass(pass, byOne.Core)
				byOne = impl.PassResult{Code: next.Code, Did: byOne.Did + next.Did, Core: next.Core}
			}
			if !samePass(got, byOne) {
				t.Errorf("%v of %s: %s, one by one %s", passes, c.core, passedAs(got), passedAs(byOne))
			}
			made[passedAs(got)] = true
		}
	}
	if len(made) < 30 {
		t.Error(len(made))
	}
}
