package tests

import (
	"cmp"
	"math"
	"reflect"
	"slices"
	"strconv"
	"strings"
	"testing"

	"loop.example/g00166/impl"
)

var farFuels = []int64{0, 1, 2, impl.MaxFuel - 1, impl.MaxFuel, impl.MaxFuel + 1, -1, -impl.MaxFuel, math.MinInt64, math.MaxInt64}

func fuelFits(fuel int64) bool {
	return 0 <= fuel && fuel <= 20000
}

type meanText struct{ program, input, want string }

// meanTexts are programs told by hand, in what they make and their code.
func meanTexts() []meanText {
	return []meanText{
		{".a + 1 , .b", `{"a":2}`, "3 null"}, {"[.[] | select(. > 1)]", "[3,1,2]", "[3,2]"}, {"reduce .[] as $x (0; . + $x)", "[3,1,2]", "6"}, {`.a // "none"`, `{"a":false}`, `"none"`}, {".[] | try (1 / .)", "[2,0,1]", "0 1"}, {"1 / .", "0", "!3"}, {"[.[] | select(. > 1)] , (.[] | try (6 / (. - 1)))", "[3,1,2]", "[3,2] 3 6"},
		{".", " [ 1 ] ", "[1]"}, {"empty", "1", ""}, {"error", "1", "!1"}, {".a.b[1]", `{"a":{"b":[1,2]}}`, "2"}, {".[\"a\"]?", "[1]", ""}, {".a", "[1]", "!6"}, {"..", "[1,[2]]", "[1,[2]] 1 [2] 2"}, {"[..] | length", "[1,[2]]", "4"}, {"keys , length , type", `{"b":1,"a":[]}`, `["a","b"] 2 "object"`}, {"map(. * 2) | sort", "[3,1]", "[2,6]"}, {"{a:.,b:(1,2)}", "7", `{"a":7,"b":1} {"a":7,"b":2}`}, {"{a:(1,2),b:(3,4)}", "7", `{"a":1,"b":3} {"a":1,"b":4} {"a":2,"b":3} {"a":2,"b":4}`}, {"(1,2) + (10,20)", "null", "11 12 21 22"}, {"(1,2) as $x | (10,20) as $y | $x + $y", "null", "11 21 12 22"}, {"[1,2,3][1,0]", "null", "2 1"},
		{"true or error , false and error", "null", "true false"}, {"false or error", "null", "!1"}, {"(true,false) or (true,false)", "null", "true true false"}, {"(true,false) and (true,false)", "null", "true false false"}, {"null or 0 , null and 0 , 1 and 0 , not", "null", "true false true true"}, {"(1,null) | not", "null", "false true"},
		{"if . then 1 elif null then 2 else 3 end", "false", "3"}, {"range(3,0,1)", "null", "0 1 2 0"}, {"range(200)", "null", "!3"}, {"range(.)", `"a"`, "!6"}, {"[range(4)] | add", "null", "6"}, {"reduce range(199) as $x (0; . + $x)", "null", "19701"}, {"try error", "null", ""}, {"try (1 , error , 2) , 3", "null", "1 3"}, {"(1 , error) // 2", "null", "1"}, {"(null , error) // 2", "null", "2"}, {"[1 , error]", "null", "!1"}, {"1 , [2] , error , 3", "null", "1 [2] !1"}, {".[] as $x | $x , .", "[1,2]", "1 [1,2] 2 [1,2]"}, {". as $x | [.[] | . + $x[0]]", "[1,2]", "[2,3]"}, {"reduce (1,2) as $x (3,4; . * $x)", "null", "6 8"}, {"reduce .[] as $x (null; empty)", "[1,2]", "null"}, {"map(map(. + 1))", "[[1],[2,3]]", "[[2],[3,4]]"}, {"select(.a , .b)", `{"a":1,"b":2}`, `{"a":1,"b":2} {"a":1,"b":2}`}, {".[] // 9", "[null,1,false,2]", "1 2"}, {"add // 0", "[]", "0"}, {"sort | .[0] , .[0 - 1]", "[2,3,1]", "1 3"},
	}
}

func TestMeanText(t *testing.T) {
	for _, c := range meanTexts() {
		got := impl.MeanText(c.program, c.input, 5000)
		made, _, _ := strings.Cut(ranAs(got), "~")
		if strings.TrimSpace(made) != c.want {
			t.Errorf("%s of %s: %s, want %s", c.program, c.input, made, c.want)
		}
		list := impl.LowerTree(treeOf(c.program)).Core
		checkFuels(t, twigOf(list), val(c.input))
		for fuel := range got.Spent + 2 {
			if text, core := impl.MeanText(c.program, c.input, fuel), impl.MeanCore(list, val(c.input), fuel); !sameRun(text, core) {
				t.Errorf("%s of %s with %d: %s, its core %s", c.program, c.input, fuel, ranAs(text), ranAs(core))
			}
		}
	}
	spends := map[string]int64{".": 1, ". , .": 3, ".a": 3, "error": 1, "not": 3, "..": 2, "true or error": 3, "false or true": 5, "select(.)": 3, "map(.)": 4, "range(3)": 4, "reduce range(199) as $x (0; . + $x)": 603, "(1,2) + (10,20)": 10, "[1,2] | .[] | . + 1": 14}
	for program, want := range spends {
		if got := impl.MeanText(program, "null", 1000); got.Spent != want {
			t.Errorf("%s: %s, want %d", program, ranAs(got), want)
		}
	}
}

// What cannot be read or run is told by the first code alone: the bytes of both
// texts, the program, its names, the input, the fuel.
func TestMeanTextCodes(t *testing.T) {
	long := strings.Repeat(" ", 4000)
	programs := map[string]int64{
		".": 0, "error": 0, "." + long[1:]: 0, long[1:] + "f": impl.ErrNone, "(": impl.ErrText, "": impl.ErrText, "#": impl.ErrText, long: impl.ErrText, "1 +": impl.ErrText, "10000000000000000": impl.ErrRange, strings.Repeat("(", 31) + "1": impl.ErrDeep, strings.Repeat("1,", 100) + "1": impl.ErrMany, "$x": impl.ErrNone, "f": impl.ErrNone, ". as $x | $y": impl.ErrNone, "length(.)": impl.ErrNone, "$x (": impl.ErrText,
	}
	inputs := map[string]int64{
		"7": 0, "7" + long[1:]: 0, "[": impl.ErrText, "": impl.ErrText, "1 2": impl.ErrText, "1.5": impl.ErrRange, "10000000000000000": impl.ErrRange, strings.Repeat("[", 21): impl.ErrDeep, "[" + strings.Repeat("1,", 199) + "1]": impl.ErrMany, `"` + strings.Repeat("x", 61) + `"`: impl.ErrMany,
	}
	tooLong := []string{"." + long, long + "$x", long + "(", strings.Repeat("\xff", 100000)}
	for program, own := range programs {
		for input, its := range inputs {
			for _, fuel := range farFuels {
				want := cmp.Or(own, its)
				if want == 0 && !fuelFits(fuel) {
					want = impl.ErrRange
				}
				got := impl.MeanText(program, input, fuel)
				if want == 0 {
					read := impl.DecodeValue(input).Value
					if core := impl.MeanCore(impl.LowerTree(treeOf(program)).Core, read, fuel); !sameRun(got, core) || fuel > 0 && got.Spent == 0 {
						t.Errorf("%s of %s with %d: %s, its core %s", short(program), short(input), fuel, short(got), short(core))
					}
				} else if !reflect.DeepEqual(got, impl.RunResult{Code: want}) {
					t.Errorf("%s of %s with %d: %s, want %d", short(program), short(input), fuel, short(got), want)
				}
			}
		}
		for _, text := range tooLong {
			for _, fuel := range farFuels {
				for _, got := range []impl.RunResult{impl.MeanText(program, text, fuel), impl.MeanText(text, "7", fuel), impl.MeanText(text, "[", fuel), impl.MeanText(text, text, fuel)} {
					if !reflect.DeepEqual(got, impl.RunResult{Code: impl.ErrMany}) {
						t.Errorf("%s and one too long with %d: %s", short(program), fuel, short(got))
					}
				}
			}
		}
	}
}

// The fault of the core, of the value, and the fuel, in this order; nothing is
// beside them.
func TestMeanCodes(t *testing.T) {
	fine, fails := readTwig("self").nodes(), readTwig("do:8").nodes()
	check := func(list []core, v cells, fuel, want int64) {
		t.Helper()
		if got := impl.MeanCore(list, v, fuel); !reflect.DeepEqual(got, impl.RunResult{Code: want}) {
			t.Errorf("%s of %s with %d: %s, want %d", short(list), short(v), fuel, short(got), want)
		}
		if got := impl.FirstOf(list, v, fuel); !reflect.DeepEqual(got, failing(want)) {
			t.Errorf("%s of %s with %d: the first is %s, want %d", short(list), short(v), fuel, short(got), want)
		}
	}
	for _, c := range faultyCores() {
		for _, fuel := range farFuels {
			check(c.core, num(1), fuel, c.code)
			check(c.core, num(impl.MaxNumber+1), fuel, c.code)
			check(c.core, nil, fuel, c.code)
		}
	}
	for _, c := range faulty() {
		for _, fuel := range farFuels {
			check(fine, c.v, fuel, c.code)
			check(fails, c.v, fuel, c.code)
		}
	}
	for _, v := range sound() {
		for _, fuel := range farFuels {
			if fuelFits(fuel) {
				continue
			}
			check(fine, v, fuel, impl.ErrRange)
			check(fails, v, fuel, impl.ErrRange)
		}
		check(fine, v, 0, impl.ErrFuel)
		check(fails, v, 0, impl.ErrFuel)
	}
}

func TestFirstOf(t *testing.T) {
	cases := []struct {
		core, v string
		fuel    int64
		want    string
	}{
		{"self", "[7]", 1, "[7]"}, {"self", "null", 20000, "null"}, {"self", "7", 0, "!8"}, {"empty", "7", 1, "!4"}, {"empty", "7", 0, "!8"}, {"Fails", "7", 1, "!1"}, {"do:2", "7", 9, "!6"}, {"try(Fails)", "7", 9, "!4"}, {"try(Fails)", "7", 1, "!8"}, {"Two", "7", 9, "1"}, {"comma(None const=2)", "7", 9, "2"}, {"OneFails", "7", 9, "1"}, {"comma(None Fails)", "7", 9, "!1"}, {"comma(Fails One)", "7", 9, "!1"},
		// Fuel for the first, and for the lists that are gone through for it, is
		// enough.
		{"Two", "7", 2, "1"}, {"Two", "7", 1, "!8"}, {"OneFails", "7", 2, "1"}, {"pipe(Two self)", "7", 5, "1"}, {"pipe(Two self)", "7", 4, "!8"}, {"list(Two)", "7", 3, "!8"}, {"list(Two)", "7", 4, "[1,2]"}, {"alt(Fails Two)", "7", 4, "1"}, {"alt(Two Fails)", "7", 3, "1"}, {"each(self)", "[3,4]", 2, "3"}, {"each(self)", "[]", 2, "!4"}, {"bin:1(Two comma(const=10 const=20))", "7", 9, "11"}, {"at(comma(const=[1,2] const=[3,4]) comma(const=0 const=1))", "7", 9, "1"}, {"reduce:0(Two comma(const=10 const=20) bin:1(self var:0))", "7", 13, "13"}, {"reduce:0(Two comma(const=10 const=20) bin:1(self var:0))", "7", 12, "!8"}, {"as:0(Two comma(var:0 var:0))", "7", 9, "1"}, {"if(Two const=8 None)", "7", 5, "8"}, {"if(Two const=8 None)", "7", 4, "!8"}, {"as:0(Two var:0)", "7", 5, "1"}, {"as:0(Two var:0)", "7", 4, "!8"}, {"each(comma(const=[1,2] const=3))", "7", 3, "1"}, {"each(comma(const=3 const=[1]))", "7", 3, "!6"}, {"try(each(Two))", "7", 4, "!4"}, {"try(each(Two))", "7", 3, "!8"}, {"list(each(Two))", "7", 4, "!6"}, {"comma(const=null Fails)", "7", 9, "null"}, {"comma(const=false One)", "7", 9, "false"}, {`member="k"(const={} Two)`, "7", 9, `{"k":1}`}, {"try(comma(const=5 do:8))", "7", 9, "5"},
	}
	for _, c := range cases {
		got := impl.FirstOf(namedTwigs(meanParts, c.core).nodes(), val(c.v), c.fuel)
		checkTold(t, c.core+" of "+c.v+" with "+strconv.FormatInt(c.fuel, 10), got, c.want)
	}
}

// As many Outs as there can be, and more: those are gone through to the end, and
// spend what they spend.
func TestMeanMostOuts(t *testing.T) {
	cases := []struct {
		program string
		fuel    int64
		code    int64
		outs    int
		spent   int64
	}{
		{"range(199) , range(100)", 99, 0, 299, 9}, {"range(199) , range(101)", 99, 0, 300, 9}, {"range(199) , range(102)", 99, impl.ErrMany, 300, 9}, {"range(199) , range(199)", 99, impl.ErrMany, 300, 9}, {"range(150,150)", 99, 0, 300, 8}, {"range(150,150,1)", 99, impl.ErrMany, 300, 12}, {"range(150,150,0)", 99, 0, 300, 12},
		// Beside a code, at 300 it is told, beyond them it is not.
		{"range(150,150) , error", 99, impl.ErrForm, 300, 10}, {"range(150,149) , error", 99, impl.ErrForm, 299, 10}, {"range(150,151) , error", 99, impl.ErrMany, 300, 10}, {"range(150,150,1) , error", 99, impl.ErrMany, 300, 14}, {"range(150,150) , error , 1", 99, impl.ErrForm, 300, 11}, {"try (range(150,151) , error)", 99, impl.ErrMany, 300, 11}, {"range(150,150) , keys", 99, impl.ErrKind, 300, 10},
		// So, too, where fuel is short.
		{"range(150,150) , 1", 9, impl.ErrFuel, 300, 9}, {"range(150,150) , 1", 10, impl.ErrMany, 300, 10}, {"range(150,150) , 1 , 2", 11, impl.ErrMany, 300, 11}, {"range(150,150) , 1 , 2", 10, impl.ErrFuel, 300, 10}, {"range(150,150) , 1 , 2", 12, impl.ErrMany, 300, 12}, {"range(150,151,1)", 9, impl.ErrFuel, 150, 9}, {"range(150,151,1)", 10, impl.ErrMany, 300, 10}, {"range(150,150)", 5, impl.ErrFuel, 0, 5}, {"range(150,150)", 6, impl.ErrFuel, 150, 6},
		// What is within is not bounded by it.
		{"[range(150,40)] | length", 99, 0, 1, 11}, {"reduce range(199,199) as $x (0; . + 1)", 9999, 0, 1, 2 + 8 + 3*398}, {"[range(199,199) | select(. == 1)]", 9999, 0, 1, 10 + 5*398}, {"range(199,199) | empty", 999, 0, 0, 9 + 398}, {"range(199,199) | 1", 999, impl.ErrMany, 300, 9 + 398},
		{"range(199) | range(199) | range(199)", 20000, impl.ErrMany, 300, 20000}, {"range(199) | range(199) | range(199) | empty", 20000, impl.ErrFuel, 0, 20000}, {"range(199) == range(199)", 20000, impl.ErrMany, 300, 5 + 199*4}, {"[range(199)] == (range(199) | range(199))", 20000, impl.ErrMany, 300, 20000},
	}
	for _, c := range cases {
		got := impl.MeanText(c.program, "null", c.fuel)
		if got.Code != c.code || len(got.Outs) != c.outs || got.Spent != c.spent {
			t.Errorf("%s with %d: %d, %d Outs, ~%d; want %d, %d, ~%d", c.program, c.fuel, got.Code, len(got.Outs), got.Spent, c.code, c.outs, c.spent)
		}
		list := impl.LowerTree(treeOf(c.program)).Core
		first := impl.FirstOf(list, null(), c.fuel)
		if c.outs > 0 && (first.Code != 0 || !slices.Equal(first.Value, got.Outs[0])) || c.outs == 0 && first.Code == 0 {
			t.Errorf("%s with %d: the first is %s", c.program, c.fuel, told(first))
		}
		if c.spent < 500 {
			checkFuels(t, twigOf(list), null())
		}
	}
	// The first 300, not others.
	got := impl.MeanText("range(199,199)", "null", 99)
	for i, out := range got.Outs {
		if !slices.Equal(out, num(int64(i%199))) {
			t.Errorf("%d: %s", i, short(out))
		}
	}
}

// As deep and as wide as a core may be.
func TestMeanGreatCores(t *testing.T) {
	for _, head := range coreHeads() {
		t.Run(head.named(), func(t *testing.T) {
			t.Parallel()
			for _, w := range grownCore(head, 120) {
				checkFuels(t, w, null())
				checkFuels(t, w, val(`[[[]],{"k":1}]`))
			}
		})
	}
	for _, leaves := range []int{299, 300, 301, 302, 450} {
		w := wideCore(leaves)
		want := impl.RunResult{Spent: int64(2*leaves - 1), Outs: repeat(min(leaves, 300), num(5))}
		if leaves > 300 {
			want.Code = impl.ErrMany
		}
		if got := impl.MeanCore(w.nodes(), num(5), 900); !sameRun(got, want) {
			t.Errorf("%d: %s", leaves, short(got))
		}
		checkFuels(t, w, num(5))
	}
	// As many slots as there are, within one another.
	bound, sum := readTwig("var:0"), readTwig("var:0")
	for slot := int64(1); slot < 60; slot++ {
		sum = tw(impl.CoreBin, sum, tw(impl.CoreVar).numbered(slot)).numbered(impl.OpAdd)
	}
	for slot := int64(59); slot >= 0; slot-- {
		bound, sum = tw(impl.CoreAs, tw(impl.CoreConst).valued(num(slot)), bound).numbered(slot), tw(impl.CoreAs, tw(impl.CoreConst).valued(num(slot+1)), sum).numbered(slot)
	}
	if got := ranAs(impl.MeanCore(bound.nodes(), null(), 500)); got != "0 ~121" {
		t.Error(got)
	}
	if got := ranAs(impl.MeanCore(sum.nodes(), null(), 500)); got != "1830 ~239" {
		t.Error(got)
	}
}

func TestSameRuns(t *testing.T) {
	run := func(code, spent int64, outs ...cells) impl.RunResult {
		return impl.RunResult{Code: code, Spent: spent, Outs: outs}
	}
	one, two, list := num(1), num(2), val(`[1,{"a":2}]`)
	cases := []struct {
		a, b impl.RunResult
		same bool
	}{
		{run(0, 0), run(0, 0), true}, {run(0, 0, one), run(0, 0, one), true}, {run(1, 0, one, list), run(1, 0, one, list), true}, {impl.RunResult{}, impl.RunResult{Outs: []cells{}}, true},
		// What is spent is not asked.
		{run(0, 1, one), run(0, 2, one), true}, {run(8, math.MinInt64), run(8, math.MaxInt64), true},
		{run(0, 1, one), run(1, 1, one), false}, {run(1, 1), run(0, 1), false}, {run(1, 1, one), run(2, 1, one), false}, {run(-1, 1), run(math.MinInt64, 1), false}, {run(math.MinInt64, 1), run(math.MinInt64, 2), true},
		{run(0, 1, one), run(0, 1), false}, {run(0, 1), run(0, 1, one), false}, {run(0, 1, one), run(0, 1, one, one), false}, {run(0, 1, one, two), run(0, 1, one), false}, {run(0, 1, one, one), run(0, 1, one), false},
		{run(0, 1, one), run(0, 1, two), false}, {run(0, 1, one, two), run(0, 1, two, one), false}, {run(0, 1, one, two, list), run(0, 1, one, two, val(`[1,{"a":3}]`)), false}, {run(0, 1, two, one, list), run(0, 1, one, one, list), false}, {run(0, 1, one, list, two), run(0, 1, one, one, two), false}, {run(0, 1, arr(one)), run(0, 1, one), false}, {run(0, 1, arr()), run(0, 1, obj()), false}, {run(0, 1, null()), run(0, 1), false}, {run(0, 1, null()), run(0, 1, no()), false}, {run(0, 1, str("")), run(0, 1, null()), false},
		{run(0, 1, repeat(300, one)...), run(0, 1, repeat(300, one)...), true}, {run(0, 1, repeat(300, one)...), run(0, 1, append(repeat(299, one), two)...), false}, {run(0, 1, repeat(301, one)...), run(0, 1, repeat(301, one)...), true}, {run(0, 1, repeat(300, one)...), run(0, 1, repeat(301, one)...), false}, {run(2, 1, repeat(1000, one)...), run(2, 9, repeat(1000, one)...), true},
	}
	for _, c := range cases {
		if got, back := impl.SameRuns(c.a, c.b), impl.SameRuns(c.b, c.a); got != c.same || back != c.same {
			t.Errorf("%s and %s: %v, back %v", short(c.a), short(c.b), got, back)
		}
	}
	values := append(sound(), faults()...)
	for i, a := range values {
		for j, b := range values {
			want := i == j && modelFault(a) == 0 || modelFault(a) == 0 && slices.Equal(a, b)
			if got := impl.SameRuns(run(0, 1, a), run(0, 2, b)); got != want {
				t.Errorf("%s and %s: %v", short(a), short(b), got)
			}
			if got := impl.SameRuns(run(6, 1, one, a, list), run(6, 2, one, b, list)); got != want {
				t.Errorf("%s and %s among others: %v", short(a), short(b), got)
			}
		}
	}
}

// checkMoreFuel is P8: what is made with less is the first of what is made with
// more, all that there was is spent, and what is enough stays as it is. A code
// that is met in a list that was cut short is the one that is met with more.
func checkMoreFuel(t *testing.T, list []core, v cells, fuels []int64) {
	t.Helper()
	all := impl.MeanCore(list, v, impl.MaxFuel)
	less := impl.RunResult{}
	for _, fuel := range fuels {
		more := impl.MeanCore(list, v, fuel)
		if len(more.Outs) < len(less.Outs) || !slices.EqualFunc(more.Outs[:len(less.Outs)], less.Outs, slices.Equal) {
			t.Fatalf("%s of %s with %d: %s, with less %s", short(list), short(v), fuel, short(ranAs(more)), short(ranAs(less)))
		}
		if len(all.Outs) < len(more.Outs) || !slices.EqualFunc(all.Outs[:len(more.Outs)], more.Outs, slices.Equal) {
			t.Fatalf("%s of %s with %d: %s, with all %s", short(list), short(v), fuel, short(ranAs(more)), short(ranAs(all)))
		}
		short8 := more.Code == impl.ErrFuel || more.Code == impl.ErrMany && len(more.Outs) == 300
		if fuel < all.Spent && (more.Spent != fuel || !short8 && !impl.SameRuns(more, all)) || fuel >= all.Spent && !sameRun(more, all) {
			t.Fatalf("%s of %s with %d: %s, with all %s", short(list), short(v), fuel, short(ranAs(more)), short(ranAs(all)))
		}
		less = more
	}
}

func fuelsUpTo(n int64) []int64 {
	var fuels []int64
	for fuel := range n + 1 {
		fuels = append(fuels, fuel)
	}
	return append(fuels, impl.MaxFuel)
}

func TestMoreFuel(t *testing.T) {
	for _, c := range meanTexts() {
		checkMoreFuel(t, impl.LowerTree(treeOf(c.program)).Core, val(c.input), fuelsUpTo(700))
	}
	for _, program := range []string{"range(150,150) , 1 , error", "range(150,151) , 1 , error", "range(20) | range(20) | . + 1", "(.,.)|(.,.)|(.,.)|(.,.)|(.,.)|(.,.)|(.,.)|(.,.)|(.,.)"} {
		checkMoreFuel(t, impl.LowerTree(treeOf(program)).Core, null(), fuelsUpTo(900))
	}
	// Those that spend all that there may be.
	doubled := strings.Repeat("(.,.)|", 20)
	for _, program := range []string{doubled + ".", doubled + "empty", "[" + doubled + "1]", "try (" + doubled + "empty , error)", "(" + doubled + "null) // 1", "reduce (" + doubled + ".) as $x (0; . + 1)"} {
		list := impl.LowerTree(treeOf(program)).Core
		checkMoreFuel(t, list, null(), []int64{0, 1, 100, 1000, 10000, 19999, 20000})
	}
	if got := impl.MeanText("("+doubled+"null) // 1", "null", 20000); ranAs(got) != "!8 ~20000" {
		t.Error(ranAs(got))
	}
	if got := impl.MeanText("["+doubled+"1]", "null", 20000); got.Code != impl.ErrMany || got.Spent != 20000 || len(got.Outs) != 0 {
		t.Error(short(ranAs(got)))
	}
}

// callAllMeans is what all functions of the chapter answer to these arguments.
func callAllMeans(list []core, v cells, fuel int64, program, input string, a, b impl.RunResult) []any {
	return []any{impl.MeanCore(list, v, fuel), impl.MeanText(program, input, fuel), impl.FirstOf(list, v, fuel), impl.SameRuns(a, b)}
}

func cloneRun(r impl.RunResult) impl.RunResult {
	outs := slices.Clone(r.Outs)
	for i := range outs {
		outs[i] = slices.Clone(outs[i])
	}
	r.Outs = outs
	return r
}

// P1 of this chapter.
func TestMeansArgumentsStayAndAnswersAreNew(t *testing.T) {
	lists := coresOfEveryKind()
	for _, text := range []string{"comma(self self)", "comma(comma(self const=[1,2]) const=[1,2])", "as:0(self comma(var:0 var:0))", "reduce:0(empty self self)", "reduce:0(self comma(self self) var:0)", "pipe(comma(self self) comma(self self))", "each(comma(self self))", "try(comma(self do:8))", "alt(self self)", "if(self self const=[3])", "list(comma(self self))", `member="k"(const={} self)`, "bin:1(const=null self)", "bin:1(self const=null)", `at(const={"a":[1]} const="a")`} {
		lists = append(lists, readTwig(text).nodes())
	}
	values := slices.Concat(sound(), faults(), []cells{val(`[[1],{"k":[2]}]`)})
	programs := []string{"", ".", ". , . , [.]", ".[] as $x | $x , $x", "(", "$x", "error", "range(199,199)", "reduce . as $x (.,.; $x)", strings.Repeat("(", 31), strings.Repeat("(.,.)|", 20) + ".", strings.Repeat(" ", 4000), strings.Repeat("(", 4001), strings.Repeat("\xff", 100000), "é", "\x00"}
	inputs := []string{"", "null", "[1,[2]]", `{"a":[1],"b":{}}`, "[", "1.5", strings.Repeat("[", 21), "[" + strings.Repeat("1,", 199) + "1]", strings.Repeat(" ", 4001), "\xff", "7"}
	for i := range 1500 {
		list, v, fuel := lists[i%len(lists)], values[i%len(values)], append([]int64{3, 9, 50, 900, 2000}, farFuels...)[i%15]
		program, input := programs[i%len(programs)], inputs[i%len(inputs)]
		a, b := impl.RunResult{Code: int64(i % 3), Spent: fuel, Outs: []cells{v, null(), v}}, impl.RunResult{Code: int64(i % 2), Outs: []cells{v, null(), values[(i+1)%len(values)]}}
		keptList, keptV, keptA, keptB := cloneCore(list), slices.Clone(v), cloneRun(a), cloneRun(b)
		first := callAllMeans(list, v, fuel, program, input, a, b)
		checkApart(t, first, list, v)
		second := callAllMeans(list, v, fuel, program, input, a, b)
		if !reflect.DeepEqual(first, second) {
			t.Errorf("%s, %s, %d, %s, %s: %s, then %s", short(list), short(v), fuel, short(program), short(input), short(first), short(second))
		}
		scribble(first)
		if !sameCores(list, keptList) || !slices.Equal(v, keptV) || !sameRun(a, keptA) || !sameRun(b, keptB) {
			t.Errorf("%s, %s, %s or %s is changed", short(keptList), short(keptV), short(keptA), short(keptB))
		}
		roomy, roomyList := append(make(cells, 0, len(v)+3), v...), roomyCores(list)
		if third := callAllMeans(roomyList, roomy, fuel, program, input, cloneRun(a), b); !reflect.DeepEqual(second, third) || slices.ContainsFunc(roomy[:cap(roomy)][len(roomy):], func(c impl.Cell) bool { return c != impl.Cell{} }) {
			t.Errorf("%s, %s, %d, %s, %s: %s, then %s", short(list), short(v), fuel, short(program), short(input), short(second), short(third))
		}
		for _, c := range roomyList {
			if slices.ContainsFunc(c.Val[:cap(c.Val)][len(c.Val):], func(c impl.Cell) bool { return c != impl.Cell{} }) {
				t.Errorf("%s is written behind", short(list))
			}
		}
	}
	if !reflect.DeepEqual(callAllMeans(nil, nil, 0, "", "", impl.RunResult{}, impl.RunResult{}), callAllMeans([]core{}, cells{}, 0, "", "", impl.RunResult{Outs: []cells{}}, impl.RunResult{Outs: []cells{}})) {
		t.Error("nil and an empty list are told apart")
	}
}
