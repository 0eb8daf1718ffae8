package tests

import (
	"slices"
	"strconv"
	"strings"
	"testing"

	"loop.example/g00166/impl"
)

func TestMeanConstants(t *testing.T) {
	if impl.MaxFuel != 20000 || impl.MaxOuts != 300 {
		t.Error(impl.MaxFuel, impl.MaxOuts)
	}
}

// meanParts are what the nodes below are made of: parts that make nothing, one
// value, two, a code, and a code behind a value.
var meanParts = map[string]string{"None": "empty", "One": "const=1", "Two": "comma(const=1 const=2)", "Fails": "do:8", "OneFails": "comma(const=1 do:8)"}

func sameRun(a, b impl.RunResult) bool {
	return a.Code == b.Code && a.Spent == b.Spent && slices.EqualFunc(a.Outs, b.Outs, slices.Equal)
}

// checkFuels holds what a core makes against the model, with every fuel from 0
// to more than it spends (of more than 2000 those at both ends).
func checkFuels(t *testing.T, w *twig, v cells) {
	t.Helper()
	list, spends := w.nodes(), modelRun(w, v, impl.MaxFuel).Spent
	for fuel := int64(0); fuel <= min(spends+2, impl.MaxFuel); fuel++ {
		if fuel == 40 && spends > 2000 {
			fuel = spends - 40
		}
		want := modelRun(w, v, fuel)
		if got := impl.MeanCore(list, v, fuel); !sameRun(got, want) {
			t.Fatalf("%s of %s with %d: %s, want %s", short(w), short(v), fuel, short(ranAs(got)), short(ranAs(want)))
		}
		if got, want := impl.FirstOf(list, v, fuel), modelFirst(want); got.Code != want.Code || !slices.Equal(got.Value, want.Value) {
			t.Fatalf("%s of %s with %d: the first is %s, want %s", short(w), short(v), fuel, short(told(got)), short(told(want)))
		}
	}
}

type meanCase struct{ core, v, want string }

func checkMeans(t *testing.T, cases []meanCase) {
	t.Helper()
	for _, c := range cases {
		w := namedTwigs(meanParts, c.core)
		if got := ranAs(impl.MeanCore(w.nodes(), val(c.v), 1000)); got != c.want {
			t.Errorf("%s of %s: %s, want %s", c.core, c.v, got, c.want)
		}
		checkFuels(t, w, val(c.v))
	}
}

func TestMeanLeaves(t *testing.T) {
	checkMeans(t, []meanCase{
		{"self", "7", "7 ~1"}, {"self", `{"a":[1,{}]}`, `{"a":[1,{}]} ~1`}, {"self", "null", "null ~1"}, {"const=[1]", "7", "[1] ~1"}, {"const=null", "7", "null ~1"}, {"empty", "7", "~1"},
		{"do:1", "[4,5]", "2 ~1"}, {"do:2", `{"b":1,"a":2}`, `["a","b"] ~1`}, {"do:3", "false", `"boolean" ~1`}, {"do:4", "[2,1]", "[1,2] ~1"}, {"do:5", "[2,1]", "3 ~1"}, {"do:6", "2", "[0,1] ~1"}, {"do:7", "[2]", "[[2],2] ~1"}, {"do:8", "7", "!1 ~1"},
		{"do:1", "true", "!6 ~1"}, {"do:2", "7", "!6 ~1"}, {"do:5", "[1000000000000000,1]", "!3 ~1"}, {"do:6", "200", "!3 ~1"},
	})
}

func TestMeanPipe(t *testing.T) {
	checkMeans(t, []meanCase{
		{"pipe(None self)", "7", "~2"}, {"pipe(One None)", "7", "~3"}, {"pipe(One self)", "7", "1 ~3"}, {"pipe(self self)", "7", "7 ~3"}, {"pipe(Two self)", "7", "1 2 ~6"}, {"pipe(Two comma(self const=7))", "null", "1 7 2 7 ~10"}, {"pipe(Two None)", "7", "~6"},
		{"pipe(None Fails)", "7", "~2"}, {"pipe(Fails self)", "7", "!1 ~2"}, {"pipe(Fails None)", "7", "!1 ~2"}, {"pipe(OneFails self)", "7", "1 !1 ~5"}, {"pipe(OneFails None)", "7", "!1 ~5"}, {"pipe(Two comma(self do:8))", "7", "1 !1 ~7"},
		// A's list is made and spent, whole; what is behind the first code in it is
		// not gone through, A's own code among it.
		{"pipe(Two Fails)", "7", "!1 ~5"}, {"pipe(OneFails do:2)", "7", "!6 ~5"}, {"pipe(Two bin:10(const=4 bin:2(self const=2)))", "7", "-4 !3 ~14"}, {"pipe(pipe(Two Two) comma(self Fails))", "7", "1 !1 ~14"}, {"pipe(comma(Two Two) Fails)", "7", "!1 ~9"}, {"pipe(comma(Two Two) pipe(Two Fails))", "7", "!1 ~13"},
	})
}

func TestMeanComma(t *testing.T) {
	checkMeans(t, []meanCase{
		{"comma(None None)", "7", "~3"}, {"comma(One None)", "7", "1 ~3"}, {"comma(None One)", "7", "1 ~3"}, {"comma(self One)", "7", "7 1 ~3"}, {"comma(One self)", "7", "1 7 ~3"}, {"comma(Two One)", "7", "1 2 1 ~5"}, {"comma(One Two)", "7", "1 1 2 ~5"},
		{"comma(Fails One)", "7", "!1 ~2"}, {"comma(One Fails)", "7", "1 !1 ~3"}, {"comma(OneFails Two)", "7", "1 !1 ~4"}, {"comma(Two OneFails)", "7", "1 2 1 !1 ~7"}, {"comma(Fails do:2)", "7", "!1 ~2"}, {"comma(do:2 Fails)", "7", "!6 ~2"}, {"comma(None Fails)", "7", "!1 ~3"},
	})
}

func TestMeanAlt(t *testing.T) {
	checkMeans(t, []meanCase{
		{"alt(One const=9)", "7", "1 ~2"}, {"alt(Two const=9)", "7", "1 2 ~4"}, {"alt(None const=9)", "7", "9 ~3"}, {"alt(const=null const=9)", "7", "9 ~3"}, {"alt(const=false const=9)", "7", "9 ~3"}, {"alt(const=true const=9)", "7", "true ~2"},
		{"alt(const=0 const=9)", "7", "0 ~2"}, {`alt(const="" const=9)`, "7", `"" ~2`}, {"alt(const=[] const=9)", "7", "[] ~2"}, {"alt(const={} const=9)", "7", "{} ~2"}, {"alt(const=[null] const=9)", "7", "[null] ~2"},
		{"alt(comma(const=null const=1) const=9)", "7", "1 ~4"}, {"alt(comma(const=1 const=false) const=9)", "7", "1 ~4"}, {"alt(comma(const=null const=false) const=9)", "7", "9 ~5"}, {"alt(comma(comma(const=1 const=null) const=2) const=9)", "7", "1 2 ~6"},
		{"alt(Fails const=9)", "7", "9 ~3"}, {"alt(OneFails const=9)", "7", "1 ~4"}, {"alt(comma(const=null do:8) const=9)", "7", "9 ~5"}, {"alt(comma(Two do:8) const=9)", "7", "1 2 ~6"},
		// B is made of the node's value, and its values and code are what they are.
		{"alt(const=null self)", "7", "7 ~3"}, {"alt(None None)", "7", "~3"}, {"alt(None Two)", "7", "1 2 ~5"}, {"alt(None const=null)", "7", "null ~3"}, {"alt(const=null comma(const=false const=null))", "7", "false null ~5"}, {"alt(None Fails)", "7", "!1 ~3"}, {"alt(Fails OneFails)", "7", "1 !1 ~5"}, {"alt(do:2 Fails)", "7", "!1 ~3"}, {"alt(One Fails)", "7", "1 ~2"},
		// A code that comes of what it made is not its own.
		{"pipe(alt(Two const=9) Fails)", "7", "!1 ~6"}, {"pipe(alt(Fails const=9) Fails)", "7", "!1 ~5"}, {"alt(pipe(Two Fails) const=9)", "7", "9 ~7"}, {"alt(each(Two) const=9)", "7", "9 ~6"}, {"comma(alt(OneFails const=9) One)", "7", "1 1 ~6"}, {"alt(alt(Fails const=false) const=9)", "7", "9 ~5"},
	})
}

// For each b of B, each a of A.
func TestMeanBin(t *testing.T) {
	checkMeans(t, []meanCase{
		{"bin:2(const=7 const=2)", "null", "5 ~3"}, {"bin:2(self const=2)", "7", "5 ~3"}, {"bin:2(const=2 self)", "7", "-5 ~3"}, {"bin:2(Two comma(const=10 const=20))", "null", "-9 -8 -19 -18 ~10"}, {"bin:2(comma(const=10 const=20) Two)", "null", "9 19 8 18 ~10"}, {"bin:1(One Two)", "null", "2 3 ~6"}, {"bin:1(Two One)", "null", "2 3 ~5"},
		{`bin:1(comma(const="a" const="b") comma(const="c" const="d"))`, "null", `"ac" "bc" "ad" "bd" ~10`}, {"bin:6(Two Two)", "null", "false false true false ~10"}, {"bin:11(const=7 comma(const=2 const=4))", "null", "1 3 ~6"},
		{"bin:1(None None)", "null", "~2"}, {"bin:1(None Two)", "null", "~6"}, {"bin:1(Two None)", "null", "~2"}, {"bin:1(Fails None)", "null", "~2"}, {"bin:1(None Fails)", "null", "!1 ~2"}, {"bin:1(Fails do:2)", "7", "!6 ~2"}, {"bin:1(do:2 Fails)", "7", "!1 ~2"},
		{"bin:1(OneFails Two)", "null", "2 !1 ~7"}, {"bin:1(Two OneFails)", "null", "2 3 !1 ~7"}, {"bin:1(OneFails OneFails)", "null", "2 !1 ~7"}, {"bin:1(None OneFails)", "null", "!1 ~5"}, {"bin:10(Two comma(const=1 const=0))", "null", "1 2 !3 ~10"}, {"bin:10(Two comma(const=0 const=1))", "null", "!3 ~7"}, {"bin:10(OneFails const=0)", "null", "!3 ~5"}, {`bin:1(const="a" One)`, "null", "!6 ~3"}, {`bin:1(comma(const=1 const="a") One)`, "null", "2 !6 ~5"},
	})
	for op := range int64(11) {
		for _, a := range []string{"7", `"a"`, "[1,2]", "null"} {
			for _, b := range []string{"2", "0", `"b"`, "[2]", "null"} {
				w := readTwig("bin:" + strconv.FormatInt(op+1, 10) + "(self const=" + b + ")")
				want := modelBinary(op+1, sampleOf(val(a)), sampleOf(val(b)))
				got := impl.MeanCore(w.nodes(), val(a), 3)
				if got.Code != want.Code || got.Spent != 3 || want.Code == 0 && !(len(got.Outs) == 1 && slices.Equal(got.Outs[0], want.Value)) {
					t.Errorf("%s of %s: %s, want %s", w, a, ranAs(got), told(want))
				}
			}
		}
	}
}

// For each a of A, each b of B.
func TestMeanAt(t *testing.T) {
	checkMeans(t, []meanCase{
		{"at(comma(const=[1,2] const=[3,4]) comma(const=0 const=1))", "null", "1 2 3 4 ~10"}, {"at(self Two)", "[3,4,5]", "4 5 ~5"}, {`at(self comma(const="a" const="b"))`, `{"a":7}`, "7 null ~5"}, {"at(comma(const=[1] const=[2]) const=0)", "null", "1 2 ~6"}, {"at(self const=-1)", "[3,4,5]", "5 ~3"},
		// B is of the node's value, not of a.
		{`at(const={"k":5} self)`, `"k"`, "5 ~3"}, {"at(self self)", "null", "!6 ~3"},
		{"at(None Two)", "null", "~2"}, {"at(const=[5] None)", "null", "~3"}, {"at(comma(self self) None)", "[5]", "~6"}, {"at(None Fails)", "null", "~2"}, {"at(Fails None)", "null", "!1 ~2"}, {"at(Fails do:2)", "7", "!1 ~2"}, {"at(do:2 Fails)", "7", "!6 ~2"},
		{"at(self OneFails)", "[3,4]", "4 !1 ~5"}, {"at(comma(self do:8) Two)", "[3,4,5]", "4 5 !1 ~7"}, {"at(comma(self do:8) OneFails)", "[3,4,5]", "4 !1 ~7"}, {"at(comma(self do:8) None)", "[3]", "!1 ~5"}, {"at(Two const=0)", "null", "!6 ~5"}, {"at(Two Two)", "null", "!6 ~7"}, {"at(comma(const=1 do:8) OneFails)", "null", "!6 ~7"}, {"at(comma(self const=1) const=0)", "[3]", "3 !6 ~6"}, {"at(self comma(const=0 const=null))", "[3]", "3 !6 ~5"},
	})
}

func TestMeanEach(t *testing.T) {
	checkMeans(t, []meanCase{
		{"each(self)", "[1,[2]]", "1 [2] ~2"}, {"each(self)", `{"b":1,"a":{"c":2}}`, `{"c":2} 1 ~2`}, {"each(self)", "[]", "~2"}, {"each(self)", "{}", "~2"}, {"each(self)", "7", "!6 ~2"}, {"each(self)", "null", "!6 ~2"}, {"each(each(self))", "[[1,2],[],[3]]", "1 2 3 ~3"}, {"each(each(self))", "[[1,2],3,[4]]", "1 2 !6 ~3"},
		{"each(None)", "[1]", "~2"}, {"each(Fails)", "[1]", "!1 ~2"}, {"each(comma(const=[1,2] const=[3]))", "null", "1 2 3 ~4"}, {"each(comma(const=[] const=[4]))", "null", "4 ~4"}, {"each(comma(const=[1,2] const=3))", "null", "1 2 !6 ~4"}, {"each(comma(const=[1,2] do:8))", "null", "1 2 !1 ~4"}, {"each(comma(const=3 const=[1]))", "null", "!6 ~4"}, {"each(OneFails)", "null", "!6 ~4"}, {"each(comma(const=[] do:8))", "null", "!1 ~4"},
	})
}

func TestMeanTry(t *testing.T) {
	checkMeans(t, []meanCase{
		{"try(None)", "7", "~2"}, {"try(One)", "7", "1 ~2"}, {"try(self)", "7", "7 ~2"}, {"try(Two)", "7", "1 2 ~4"}, {"try(const=null)", "7", "null ~2"}, {"try(comma(const=false const=null))", "7", "false null ~4"}, {"try(Fails)", "7", "~2"}, {"try(do:2)", "7", "~2"}, {"try(OneFails)", "7", "1 ~4"}, {"try(comma(Two Fails))", "7", "1 2 ~6"}, {"try(comma(Fails Two))", "7", "~3"},
		{"comma(try(OneFails) const=9)", "7", "1 9 ~6"}, {"try(try(Fails))", "7", "~3"}, {"try(comma(try(OneFails) Fails))", "7", "1 ~7"}, {"comma(try(One) Fails)", "7", "1 !1 ~4"}, {"try(pipe(Two Fails))", "7", "~6"}, {"try(each(Two))", "7", "~5"},
		// A code that comes of what it made is not its own.
		{"pipe(try(Two) Fails)", "7", "!1 ~6"}, {"pipe(try(comma(const=0 const=2)) bin:10(const=6 self))", "7", "!3 ~8"}, {"pipe(comma(const=0 const=2) try(bin:10(const=6 self)))", "7", "3 ~12"}, {"each(try(self))", "7", "!6 ~3"}, {"try(each(self))", "7", "~3"}, {"bin:10(const=6 try(const=0))", "7", "!3 ~4"}, {"try(bin:10(const=6 comma(const=0 const=2)))", "7", "~6"},
	})
}

func TestMeanList(t *testing.T) {
	checkMeans(t, []meanCase{
		{"list(None)", "7", "[] ~2"}, {"list(One)", "7", "[1] ~2"}, {"list(self)", `{"a":1}`, `[{"a":1}] ~2`}, {"list(Two)", "7", "[1,2] ~4"}, {"list(const=[1,[2]])", "7", "[[1,[2]]] ~2"}, {"list(list(Two))", "7", "[[1,2]] ~5"}, {"list(comma(list(Two) list(None)))", "7", "[[1,2],[]] ~8"}, {"list(each(self))", `{"b":{"c":1},"a":2}`, `[2,{"c":1}] ~3`}, {"list(const=null)", "7", "[null] ~2"},
		{"list(Fails)", "7", "!1 ~2"}, {"list(OneFails)", "7", "!1 ~4"}, {"list(try(OneFails))", "7", "[1] ~5"}, {"comma(list(One) list(Fails))", "7", "[1] !1 ~5"}, {"list(comma(Two do:2))", "7", "!6 ~6"},
	})
	far, deep := tw(impl.CoreConst).valued(numbersUpTo(198)), tw(impl.CoreConst).valued(nested(20))
	one, fails := tw(impl.CoreConst).valued(num(1)), tw(impl.CoreDo).numbered(impl.DoError)
	comma := func(list ...*twig) *twig {
		whole := list[0]
		for _, next := range list[1:] {
			whole = tw(impl.CoreComma, whole, next)
		}
		return whole
	}
	each := tw(impl.CoreEach, far)
	cases := []struct {
		w     *twig
		code  int64
		spent int64
	}{
		// 199 numbers are as many as there can be.
		{comma(each, one), 0, 5}, {comma(each, one, one), impl.ErrMany, 7}, {comma(one, each, one), impl.ErrMany, 7}, {far, 0, 2}, {comma(far, one), impl.ErrMany, 4}, {comma(far, far), impl.ErrMany, 4},
		// The first that is too much ends it: what is behind was made, but no other
		// code is asked.
		{comma(each, one, one, one), impl.ErrMany, 9}, {comma(each, one, one, fails), impl.ErrMany, 9}, {comma(each, one, fails, one), impl.ErrForm, 8}, {comma(each, each), impl.ErrMany, 6}, {comma(each, each, fails), impl.ErrMany, 8}, {comma(deep, each, one, one), impl.ErrDeep, 9}, {comma(each, one, one, deep), impl.ErrMany, 9}, {comma(each, deep), impl.ErrMany, 5}, {comma(one, deep, fails), impl.ErrDeep, 6}, {comma(one, fails, deep), impl.ErrForm, 5}, {deep, impl.ErrDeep, 2}, {tw(impl.CoreConst).valued(nested(19)), 0, 2},
	}
	for _, c := range cases {
		w := tw(impl.CoreList, c.w)
		got := impl.MeanCore(w.nodes(), null(), 1000)
		if got.Code != c.code || got.Spent != c.spent || len(got.Outs) != int(1-min(c.code, 1)) {
			t.Errorf("%s: %s, want %d ~%d", short(w), short(ranAs(got)), c.code, c.spent)
		}
		checkFuels(t, w, null())
	}
}

// For each a of A, each b of B.
func TestMeanMember(t *testing.T) {
	checkMeans(t, []meanCase{
		{`member="k"(const={} Two)`, "null", `{"k":1} {"k":2} ~5`}, {`member="k"(comma(const={"a":0} const={"k":0}) Two)`, "null", `{"a":0,"k":1} {"a":0,"k":2} {"k":1} {"k":2} ~10`}, {`member=""(const={} self)`, "7", `{"":7} ~3`}, {`member="b"(const={"a":1,"c":3} const=2)`, "null", `{"a":1,"b":2,"c":3} ~3`}, {`member="k"(const=null One)`, "null", `{"k":1} ~3`}, {`member="k"(self self)`, `{"a":1}`, `{"a":1,"k":{"a":1}} ~3`},
		{`member="k"(None Two)`, "null", "~2"}, {`member="k"(const={} None)`, "null", "~3"}, {`member="k"(None Fails)`, "null", "~2"}, {`member="k"(Fails None)`, "null", "!1 ~2"}, {`member="k"(Fails do:2)`, "7", "!1 ~2"}, {`member="k"(do:2 Fails)`, "7", "!6 ~2"}, {`member="k"(const={} OneFails)`, "null", `{"k":1} !1 ~5`}, {`member="k"(comma(const={} do:8) One)`, "null", `{"k":1} !1 ~5`}, {`member="k"(One One)`, "null", "!6 ~3"}, {`member="k"(comma(const={} const=1) One)`, "null", `{"k":1} !6 ~6`}, {`member="k"(comma(const=1 const={}) Two)`, "null", "!6 ~7"},
	})
}

func TestMeanIf(t *testing.T) {
	checkMeans(t, []meanCase{
		{"if(const=true const=8 const=9)", "7", "8 ~3"}, {"if(const=false const=8 const=9)", "7", "9 ~3"}, {"if(const=null const=8 const=9)", "7", "9 ~3"}, {"if(const=0 const=8 const=9)", "7", "8 ~3"}, {`if(const="" const=8 const=9)`, "7", "8 ~3"}, {"if(const=[] const=8 const=9)", "7", "8 ~3"}, {"if(const={} const=8 const=9)", "7", "8 ~3"},
		// B and C are of the node's value.
		{"if(const=1 self None)", "7", "7 ~3"}, {"if(const=null None self)", "7", "7 ~3"}, {"if(self self const=9)", "7", "7 ~3"}, {"if(self const=8 self)", "false", "false ~3"},
		{"if(None const=8 const=9)", "7", "~2"}, {"if(Two None const=9)", "7", "~6"}, {"if(comma(const=1 const=null) const=8 const=9)", "7", "8 9 ~6"}, {"if(comma(const=null const=1) const=8 const=9)", "7", "9 8 ~6"}, {"if(Two Two const=9)", "7", "1 2 1 2 ~10"}, {"if(comma(const=false const=1) Two comma(const=3 const=4))", "7", "3 4 1 2 ~10"},
		{"if(Fails const=8 const=9)", "7", "!1 ~2"}, {"if(OneFails const=8 const=9)", "7", "8 !1 ~5"}, {"if(One Fails const=9)", "7", "!1 ~3"}, {"if(One const=8 Fails)", "7", "8 ~3"}, {"if(const=null Fails const=9)", "7", "9 ~3"}, {"if(const=null const=8 OneFails)", "7", "1 !1 ~5"}, {"if(comma(const=1 const=false) Fails const=9)", "7", "!1 ~5"}, {"if(comma(const=false const=1) Fails const=9)", "7", "9 !1 ~6"}, {"if(None Fails Fails)", "7", "~2"},
	})
}

func TestMeanReduce(t *testing.T) {
	checkMeans(t, []meanCase{
		{"reduce:0(Two const=10 bin:1(self var:0))", "null", "13 ~11"}, {"reduce:0(each(self) const=0 bin:1(self var:0))", "[3,1,2]", "6 ~13"}, {"reduce:0(self self self)", "7", "7 ~4"}, {"reduce:0(const=1 const=2 self)", "7", "2 ~4"}, {"reduce:0(const=1 const=2 var:0)", "7", "1 ~4"},
		// C makes nothing: null; several: the last.
		{"reduce:0(Two const=10 None)", "null", "null ~7"}, {"reduce:0(Two const=10 comma(self var:0))", "null", "2 ~11"}, {"reduce:0(Two const=10 comma(var:0 self))", "null", "10 ~11"}, {"reduce:0(Two const=10 if(bin:4(var:0 const=1) None self))", "7", "null ~15"}, {"reduce:0(Two const=10 if(bin:4(var:0 const=2) None self))", "7", "null ~15"}, {"reduce:0(Two const=10 if(bin:4(self const=null) var:0 None))", "7", "2 ~15"},
		// A makes nothing: the state as it was; B nothing: none.
		{"reduce:0(None const=10 Fails)", "null", "10 ~3"}, {"reduce:0(None Two Fails)", "null", "1 2 ~6"}, {"reduce:0(Two None Fails)", "null", "~2"}, {"reduce:0(Fails None Fails)", "null", "~2"},
		// For each of B as a state, for each of A.
		{"reduce:0(One Two bin:1(self var:0))", "null", "2 3 ~12"}, {"reduce:0(Two comma(const=10 const=20) bin:1(self var:0))", "null", "13 23 ~22"}, {`reduce:0(comma(const="a" const="b") comma(const="x" const="y") bin:1(self var:0))`, "null", `"xab" "yab" ~22`},
		{"reduce:0(Two const=10 Fails)", "null", "!1 ~6"}, {"reduce:0(Two const=10 OneFails)", "null", "!1 ~8"}, {"reduce:0(Fails const=10 self)", "null", "!1 ~3"}, {"reduce:0(OneFails const=10 self)", "null", "!1 ~6"}, {"reduce:0(Two Fails self)", "null", "!1 ~2"}, {"reduce:0(Fails do:2 self)", "7", "!6 ~2"}, {"reduce:0(do:2 Fails self)", "7", "!1 ~2"}, {"reduce:0(One OneFails self)", "null", "1 !1 ~6"}, {"reduce:0(comma(const=1 const=0) Two bin:10(self var:0))", "null", "!3 ~13"}, {"reduce:0(One comma(const=1 const=false) bin:1(self var:0))", "null", "2 !6 ~12"}, {"reduce:0(OneFails Two self)", "null", "!1 ~8"}, {"reduce:0(Two Two Fails)", "null", "!1 ~8"}, {"reduce:0(Two const=10 try(Fails))", "null", "null ~9"},
	})
}

// A variable is that of the innermost one about it, whatever is bound beside it.
func TestMeanVariables(t *testing.T) {
	checkMeans(t, []meanCase{
		{"as:0(Two var:0)", "7", "1 2 ~6"}, {"as:0(self var:0)", "7", "7 ~3"}, {"as:59(One var:59)", "7", "1 ~3"}, {"as:0(None Fails)", "7", "~2"}, {"as:0(One None)", "7", "~3"}, {"as:0(Fails One)", "7", "!1 ~2"}, {"as:0(OneFails var:0)", "7", "1 !1 ~5"}, {"as:0(Two Fails)", "7", "!1 ~5"}, {"as:0(Two OneFails)", "7", "1 !1 ~7"}, {"as:0(Two comma(var:0 self))", "7", "1 7 2 7 ~10"}, {"as:0(Two const=9)", "7", "9 9 ~6"},
		{"as:0(const=1 as:1(const=2 comma(var:0 var:1)))", "7", "1 2 ~7"}, {"as:1(const=1 as:0(const=2 comma(var:0 var:1)))", "7", "2 1 ~7"}, {"as:0(Two as:1(comma(const=8 const=9) bin:3(var:0 var:1)))", "7", "8 9 16 18 ~24"},
		// One slot within itself, beside itself, and while the other one goes on.
		{"as:0(const=1 as:0(const=2 var:0))", "7", "2 ~5"}, {"as:0(const=1 as:0(var:0 var:0))", "7", "1 ~5"}, {"as:0(const=1 comma(as:0(const=2 var:0) var:0))", "7", "2 1 ~7"}, {"as:0(const=1 comma(var:0 as:0(const=2 var:0)))", "7", "1 2 ~7"}, {"as:0(as:0(const=3 var:0) var:0)", "7", "3 ~5"},
		{"pipe(as:0(const=1 comma(var:0 var:0)) as:0(const=2 comma(self var:0)))", "7", "1 2 1 2 ~16"}, {"as:0(Two pipe(as:0(const=5 var:0) comma(self var:0)))", "7", "5 1 5 2 ~18"}, {"as:0(const=1 pipe(comma(const=8 const=9) as:0(self comma(var:0 self))))", "7", "8 8 9 9 ~16"}, {"bin:1(as:0(Two var:0) as:0(comma(const=10 const=20) var:0))", "7", "11 12 21 22 ~19"},
		{"as:3(const=7 reduce:3(Two var:3 bin:1(self var:3)))", "null", "10 ~13"}, {"as:3(const=7 comma(reduce:3(Two var:3 var:3) var:3))", "null", "2 7 ~11"}, {"reduce:0(Two const=0 as:0(const=5 bin:1(self var:0)))", "null", "10 ~15"}, {"reduce:0(Two const=0 comma(as:0(const=5 var:0) bin:1(self var:0)))", "null", "3 ~19"}, {"reduce:0(Two const=0 reduce:1(comma(const=10 const=20) self bin:1(self bin:3(var:0 var:1))))", "null", "90 ~35"}, {"as:0(const=4 list(pipe(each(self) bin:1(self var:0))))", "[1,2]", "[5,6] ~12"},
	})
}

// namedCodes has for each code that a node may come to one that does.
func namedCodes() map[int64]*twig {
	long, far, deep := tw(impl.CoreConst).valued(str(strings.Repeat("x", 60))), tw(impl.CoreConst).valued(numbersUpTo(150)), tw(impl.CoreConst).valued(nested(20))
	return map[int64]*twig{
		impl.ErrForm: readTwig("do:8"), impl.ErrMany: tw(impl.CoreBin, far, far).numbered(impl.OpAdd), impl.ErrRange: readTwig("bin:10(const=1 const=0)"), impl.ErrText: tw(impl.CoreBin, long, long).numbered(impl.OpAdd), impl.ErrKind: readTwig("each(const=1)"), impl.ErrDeep: tw(impl.CoreList, deep),
	}
}

// Every code but ErrFuel is left out, by those alone that leave codes out.
func TestMeanCodesLeftOut(t *testing.T) {
	for number, fails := range namedCodes() {
		own := ranAs(impl.MeanCore(fails.nodes(), null(), 100))
		if !strings.HasPrefix(own, code(number)+" ~") {
			t.Errorf("%s: %s, want %d", short(fails), own, number)
		}
		one, nine := tw(impl.CoreConst).valued(num(1)), tw(impl.CoreConst).valued(num(9))
		null1 := tw(impl.CoreConst).valued(null())
		behind := func(first *twig) *twig { return tw(impl.CoreComma, first, fails) }
		cases := []struct {
			w    *twig
			want string
		}{
			{tw(impl.CoreTry, fails), ""}, {tw(impl.CoreTry, behind(one)), "1 "}, {tw(impl.CoreComma, tw(impl.CoreTry, behind(one)), nine), "1 9 "}, {tw(impl.CoreAlt, fails, nine), "9 "}, {tw(impl.CoreAlt, behind(one), nine), "1 "}, {tw(impl.CoreAlt, behind(null1), nine), "9 "}, {tw(impl.CoreAlt, nine, fails), "9 "},
			{behind(one), "1 " + code(number) + " "}, {tw(impl.CoreAlt, null1, fails), code(number) + " "}, {tw(impl.CorePipe, tw(impl.CoreTry, one), fails), code(number) + " "}, {tw(impl.CorePipe, tw(impl.CoreAlt, one, nine), fails), code(number) + " "}, {tw(impl.CoreList, behind(one)), code(number) + " "}, {tw(impl.CoreReduce, behind(one), nine, nine), code(number) + " "},
		}
		for _, c := range cases {
			got, _, _ := strings.Cut(ranAs(impl.MeanCore(c.w.nodes(), null(), 100)), "~")
			if got != c.want {
				t.Errorf("%s: %s, want %s", short(c.w), got, c.want)
			}
			checkFuels(t, c.w, null())
		}
	}
}

// What is made with each fuel from 0 on, told by hand.
func TestMeanFuels(t *testing.T) {
	cases := map[string]string{
		"self":                                       "!8 ~0; 7 ~1; 7 ~1",
		"empty":                                      "!8 ~0; ~1; ~1",
		"do:8":                                       "!8 ~0; !1 ~1; !1 ~1",
		"comma(self self)":                           "!8 ~0; !8 ~1; 7 !8 ~2; 7 7 ~3; 7 7 ~3",
		"pipe(Two self)":                             "!8 ~0; !8 ~1; !8 ~2; !8 ~3; !8 ~4; 1 !8 ~5; 1 2 ~6; 1 2 ~6",
		"pipe(OneFails self)":                        "!8 ~0; !8 ~1; !8 ~2; !8 ~3; !8 ~4; 1 !1 ~5; 1 !1 ~5",
		"bin:1(Two One)":                             "!8 ~0; !8 ~1; !8 ~2; !8 ~3; 2 !8 ~4; 2 3 ~5; 2 3 ~5",
		"at(const=[4,5] comma(const=0 const=1))":     "!8 ~0; !8 ~1; !8 ~2; !8 ~3; 4 !8 ~4; 4 5 ~5; 4 5 ~5",
		`member="k"(const={} Two)`:                   `!8 ~0; !8 ~1; !8 ~2; !8 ~3; {"k":1} !8 ~4; {"k":1} {"k":2} ~5; {"k":1} {"k":2} ~5`,
		"each(comma(const=[1,2] const=[3]))":         "!8 ~0; !8 ~1; !8 ~2; 1 2 !8 ~3; 1 2 3 ~4; 1 2 3 ~4",
		"try(OneFails)":                              "!8 ~0; !8 ~1; !8 ~2; 1 !8 ~3; 1 ~4; 1 ~4",
		"try(try(Fails))":                            "!8 ~0; !8 ~1; !8 ~2; ~3; ~3",
		"comma(try(OneFails) const=9)":               "!8 ~0; !8 ~1; !8 ~2; !8 ~3; 1 !8 ~4; 1 !8 ~5; 1 9 ~6; 1 9 ~6",
		"alt(comma(const=null const=1) const=9)":     "!8 ~0; !8 ~1; !8 ~2; !8 ~3; 1 ~4; 1 ~4",
		"alt(comma(const=1 const=null) const=9)":     "!8 ~0; !8 ~1; !8 ~2; 1 !8 ~3; 1 ~4; 1 ~4",
		"alt(comma(const=null const=false) const=9)": "!8 ~0; !8 ~1; !8 ~2; !8 ~3; !8 ~4; 9 ~5; 9 ~5",
		"alt(Fails const=9)":                         "!8 ~0; !8 ~1; !8 ~2; 9 ~3; 9 ~3",
		"alt(alt(Fails Fails) const=9)":              "!8 ~0; !8 ~1; !8 ~2; !8 ~3; !8 ~4; 9 ~5; 9 ~5",
		"list(Two)":                                  "!8 ~0; !8 ~1; !8 ~2; !8 ~3; [1,2] ~4; [1,2] ~4",
		"list(try(OneFails))":                        "!8 ~0; !8 ~1; !8 ~2; !8 ~3; !8 ~4; [1] ~5; [1] ~5",
		"if(Two self None)":                          "!8 ~0; !8 ~1; !8 ~2; !8 ~3; !8 ~4; 7 !8 ~5; 7 7 ~6; 7 7 ~6",
		"reduce:0(One Two var:0)":                    "!8 ~0; !8 ~1; !8 ~2; !8 ~3; !8 ~4; !8 ~5; 1 !8 ~6; 1 !8 ~7; 1 1 ~8; 1 1 ~8",
		// A code that is met in a list that was cut short is the code.
		"each(Two)":                              "!8 ~0; !8 ~1; !8 ~2; !6 ~3; !6 ~4; !6 ~4",
		"try(each(Two))":                         "!8 ~0; !8 ~1; !8 ~2; !8 ~3; ~4; ~5; ~5",
		"alt(each(Two) const=9)":                 "!8 ~0; !8 ~1; !8 ~2; !8 ~3; !8 ~4; !8 ~5; 9 ~6; 9 ~6",
		"comma(try(each(Two)) const=9)":          "!8 ~0; !8 ~1; !8 ~2; !8 ~3; !8 ~4; !8 ~5; !8 ~6; 9 ~7; 9 ~7",
		"bin:10(Two comma(const=0 const=1))":     "!8 ~0; !8 ~1; !8 ~2; !8 ~3; !8 ~4; !8 ~5; !3 ~6; !3 ~7; !3 ~7",
		"list(each(comma(const=[1,2] const=3)))": "!8 ~0; !8 ~1; !8 ~2; !8 ~3; !8 ~4; !6 ~5; !6 ~5",
		"as:0(Two var:0)":                        "!8 ~0; !8 ~1; !8 ~2; !8 ~3; !8 ~4; 1 !8 ~5; 1 2 ~6; 1 2 ~6",
	}
	for text, want := range cases {
		list := namedTwigs(meanParts, text).nodes()
		for fuel, want := range strings.Split(want, "; ") {
			if got := ranAs(impl.MeanCore(list, num(7), int64(fuel))); got != want {
				t.Errorf("%s with %d: %s, want %s", text, fuel, got, want)
			}
		}
		last := want[strings.LastIndex(want, "; ")+2:]
		if got := ranAs(impl.MeanCore(list, num(7), impl.MaxFuel)); got != last || strings.Contains(last, code(impl.ErrFuel)) {
			t.Errorf("%s with all: %s, want %s", text, got, last)
		}
	}
}

// Every op over every choice of parts.
func TestMeanPartsAgainstModel(t *testing.T) {
	parts := []string{"self", "None", "One", "const=null", "const=false", `const="k"`, "Two", "comma(const=false const=[5])", "Fails", "OneFails", "comma(const=null do:8)", "each(self)", "do:2", "try(OneFails)"}
	var pool []*twig
	for _, part := range parts {
		pool = append(pool, namedTwigs(meanParts, part))
	}
	values := []cells{null(), num(2), val(`[[1,2],{"k":false},null]`), val(`{"a":0,"k":[3]}`)}
	for _, head := range append(coreHeads(), tw(impl.CoreBin).numbered(impl.OpDiv), tw(impl.CoreBin).numbered(impl.OpLt)) {
		t.Run(head.named(), func(t *testing.T) {
			t.Parallel()
			everyChoice(head, pool, besideSelf, func(w *twig) {
				for _, v := range values {
					checkFuels(t, w, v)
				}
			})
		})
	}
}

func (w *twig) named() string {
	return modelCores[w.op][0] + strconv.FormatInt(w.num, 10)
}

// binds tells whether the part at this place is one in which a variable is bound.
func (w *twig) binds(at int) bool {
	return w.op == impl.CoreAs && at == 1 || w.op == impl.CoreReduce && at == 2
}

// everyChoice goes through all twigs of a head whose parts are of a pool and, where
// it binds a variable, also that one and what is made with it.
func everyChoice(head *twig, pool []*twig, with func(x *twig) *twig, do func(w *twig)) {
	x := tw(impl.CoreVar).numbered(head.num)
	bound := append(slices.Clone(pool), x, with(x))
	var fill func(kids []*twig)
	fill = func(kids []*twig) {
		if len(kids) == coreKids(head.op) {
			do(&twig{head.op, head.num, head.val, kids})
			return
		}
		inner := pool
		if head.binds(len(kids)) {
			inner = bound
		}
		for _, kid := range inner {
			fill(append(slices.Clone(kids), kid))
		}
	}
	fill(nil)
}

func besideSelf(x *twig) *twig {
	return tw(impl.CoreComma, tw(impl.CoreSelf), x)
}

// smallSound goes through all twigs without a fault that have these heads and no
// more than that many nodes.
func smallSound(words string, size int, do func(w *twig)) {
	var heads []*twig
	for _, head := range strings.Fields(words) {
		heads = append(heads, readHead(head))
	}
	for nodes := range size {
		for _, w := range smallCores(heads, nodes+1) {
			if !w.unbound(nil) {
				do(w)
			}
		}
	}
}

// All small cores with these heads, those without a fault.
func TestMeanSmallCoresAgainstModel(t *testing.T) {
	sets := map[string]struct {
		heads string
		size  int
		v     string
	}{
		"each kind": {`self const=1 const=[2,3] pipe comma alt bin:1 at each try list member="k" if reduce:0 as:0 var:0 do:1 do:8 empty`, 5, "[[1,2],0]"},
		"codes":     {"const=null const=1 do:8 comma alt try list", 7, "null"},
		"lists":     {"self each list pipe comma", 8, "[[1,2],[3]]"},
		"rounds":    {"const=1 do:1 comma bin:1 pipe if", 7, "[4]"},
		"slots":     {"const=1 self as:0 as:1 var:0 var:1 comma", 7, "5"},
		"states":    {"const=1 self reduce:0 as:0 var:0 comma bin:1", 7, "5"},
		"nothing":   {"empty self alt reduce:0 if try", 7, "false"},
	}
	for name, set := range sets {
		t.Run(name, func(t *testing.T) {
			t.Parallel()
			ran := 0
			smallSound(set.heads, set.size, func(w *twig) {
				checkFuels(t, w, val(set.v))
				ran++
			})
			if ran < 500 {
				t.Error(ran)
			}
		})
	}
}

// readHead reads a node without those that it names.
func readHead(text string) *twig {
	for kids := range 4 {
		for op, names := range modelCores {
			word, _, _ := strings.Cut(text, "=")
			word, _, _ = strings.Cut(word, ":")
			if op > 0 && names[0] == word && coreKids(int64(op)) == kids {
				if kids > 0 {
					text += "(" + strings.Join(slices.Repeat([]string{"self"}, kids), " ") + ")"
				}
				w := readTwig(text)
				return &twig{op: w.op, num: w.num, val: w.val}
			}
		}
	}
	panic(text)
}
