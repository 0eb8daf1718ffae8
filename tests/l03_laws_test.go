package tests

import (
	"slices"
	"strings"
	"testing"

	"loop.example/g00166/impl"
)

// P4, told by the functions of the chapter themselves.

// containers are the arrays and objects of the pool and of the short lists.
func containers() []cells {
	var list []cells
	for _, v := range slices.Concat(opPool(), shortLists(smallAlphabet(), 4)) {
		if modelFault(v) == 0 && (v[0].Kind == impl.KindArray || v[0].Kind == impl.KindObject) {
			list = append(list, v)
		}
	}
	return list
}

func mustSame(t *testing.T, got impl.ValueResult, want cells, what ...any) {
	t.Helper()
	if got.Code != impl.OK || !impl.SameValues(got.Value, want) {
		t.Errorf("%s: %s, want %s", short(what), short(got), short(want))
	}
}

// keyTexts are the keys that KeysOf tells of an object.
func keyTexts(v cells) []string {
	var keys []string
	for _, key := range impl.EachOf(impl.KeysOf(v).Value).Parts {
		keys = append(keys, key[0].Text)
	}
	return keys
}

func TestValueIsItsParts(t *testing.T) {
	for _, v := range containers() {
		parts := impl.EachOf(v).Parts
		if v[0].Kind == impl.KindArray {
			mustSame(t, impl.ArrayValue(parts), v, "the parts of", v)
		} else {
			mustSame(t, impl.ObjectValue(keyTexts(v), parts), v, "the parts of", v)
		}
		mustSame(t, impl.LengthOf(v), num(int64(len(parts))), "the length of", v)
		keys := impl.EachOf(impl.KeysOf(v).Value).Parts
		if len(keys) != len(parts) {
			t.Errorf("%v: %d keys and %d parts", v, len(keys), len(parts))
			continue
		}
		for i, key := range keys {
			mustSame(t, impl.GetAt(v, key), parts[i], "the part at", key, "of", v)
		}
	}
}

func TestElementsFromBothEnds(t *testing.T) {
	for _, v := range containers() {
		if v[0].Kind != impl.KindArray {
			continue
		}
		parts := impl.EachOf(v).Parts
		length := int64(len(parts))
		for i, part := range parts {
			mustSame(t, impl.GetIndex(v, int64(i)), part, "element", i, "of", v)
			mustSame(t, impl.GetIndex(v, int64(i)-length), part, "element", i, "from the end of", v)
		}
		mustSame(t, impl.GetIndex(v, length), null(), "behind the last one of", v)
		mustSame(t, impl.GetIndex(v, -length-1), null(), "ahead of the first one of", v)
	}
}

// The parts, laid in lists of their own at any place, are the value once they
// are added.
func TestSumsGoOn(t *testing.T) {
	for _, v := range containers() {
		parts := impl.EachOf(v).Parts
		for _, cut := range []int{0, 1, len(parts) / 2, len(parts) - 1, len(parts)} {
			if cut < 0 || cut > len(parts) {
				continue
			}
			head, tail := impl.ArrayValue(parts[:cut]), impl.ArrayValue(parts[cut:])
			if v[0].Kind == impl.KindObject {
				keys := keyTexts(v)
				head, tail = impl.ObjectValue(keys[:cut], parts[:cut]), impl.ObjectValue(keys[cut:], parts[cut:])
			}
			mustSame(t, impl.Binary(impl.OpAdd, head.Value, tail.Value), v, "cut at", cut, v)
			if list := arr(head.Value, null(), tail.Value); modelFault(list) == 0 {
				mustSame(t, impl.AddAll(list), v, "added, cut at", cut, v)
			}
		}
	}
	s := strings.Repeat("0123456789", 6)
	for cut := range 61 {
		mustSame(t, impl.Binary(impl.OpAdd, str(s[:cut]), str(s[cut:])), str(s), "cut at", cut)
	}
	for n := int64(1); n < impl.MaxCells; n++ {
		mustSame(t, impl.AddAll(impl.RangeOf(n).Value), num(n*(n-1)/2), "the sum up to", n)
	}
}

// addOn is (a + b) + c, the first code told.
func addOn(a, b, c cells) impl.ValueResult {
	sum := impl.Binary(impl.OpAdd, a, b)
	if sum.Code != impl.OK {
		return sum
	}
	return impl.Binary(impl.OpAdd, sum.Value, c)
}

// AddAll is what comes of OpAdd one by one; what can be added either way comes
// out the same.
func TestSumsOneByOne(t *testing.T) {
	pool := slices.Concat(rising(), []cells{num(impl.MaxNumber - 1), num(-9), str(strings.Repeat("s", 30)), str(strings.Repeat("t", 31)), val(`{"a":5,"b":6}`), val(`[1,[2],1]`)})
	for _, a := range pool {
		for _, b := range pool {
			for _, c := range pool {
				left := addOn(a, b, c)
				checkAnswer(t, impl.AddAll(arr(a, b, c)), left, "AddAll", a, b, c)
				checkAnswer(t, impl.AddAll(obj(member("a", a), member("b", b), member("c", c))), left, "AddAll of members", a, b, c)
				right := impl.Binary(impl.OpAdd, b, c)
				if right.Code == impl.OK {
					right = impl.Binary(impl.OpAdd, a, right.Value)
				}
				if left.Code == impl.OK && right.Code == impl.OK && !impl.SameValues(left.Value, right.Value) {
					t.Errorf("%v, %v and %v: %v and %v", a, b, c, left, right)
				}
			}
		}
	}
}

func TestDifferencesGoBack(t *testing.T) {
	for _, a := range opPool() {
		for _, b := range opPool() {
			if a[0].Kind != b[0].Kind || a[0].Kind != impl.KindNumber && a[0].Kind != impl.KindArray {
				continue
			}
			less := impl.Binary(impl.OpSub, a, b)
			if a[0].Kind == impl.KindNumber && less.Code == impl.OK {
				mustSame(t, impl.Binary(impl.OpAdd, less.Value, b), a, a, "less", b)
				continue
			}
			if a[0].Kind == impl.KindArray {
				checkWithout(t, impl.EachOf(a).Parts, impl.EachOf(b).Parts, less)
			}
		}
	}
}

func checkWithout(t *testing.T, a, b []cells, less impl.ValueResult) {
	t.Helper()
	var left []cells
	for _, part := range a {
		if countSame(b, part) == 0 {
			left = append(left, part)
		}
	}
	mustSame(t, less, arr(left...), a, "without", b)
}

func countSame(list []cells, v cells) int {
	n := 0
	for _, other := range list {
		if impl.SameValues(v, other) {
			n++
		}
	}
	return n
}

func TestQuotientAndRest(t *testing.T) {
	numbers := []int64{0, 1, 2, 3, 5, 7, 10, 99, 100, 31622776, 31622777, impl.MaxNumber / 3, impl.MaxNumber / 2, impl.MaxNumber - 1, impl.MaxNumber}
	for _, n := range slices.Clone(numbers) {
		numbers = append(numbers, -n)
	}
	for _, a := range numbers {
		for _, b := range numbers {
			whole, rest := impl.Binary(impl.OpDiv, num(a), num(b)), impl.Binary(impl.OpMod, num(a), num(b))
			if b == 0 {
				checkAnswer(t, whole, failing(impl.ErrRange), a, "by 0")
				checkAnswer(t, rest, failing(impl.ErrRange), a, "by 0")
				continue
			}
			times := impl.Binary(impl.OpMul, whole.Value, num(b))
			mustSame(t, impl.Binary(impl.OpAdd, times.Value, rest.Value), num(a), a, "by", b)
			left := rest.Value[0].Num
			if left != 0 && (left < 0) != (a < 0) || max(left, -left) >= max(b, -b) {
				t.Errorf("%d by %d leaves %d", a, b, left)
			}
		}
	}
}

func checkSorted(t *testing.T, v cells) {
	t.Helper()
	got := impl.SortOf(v)
	before, after := impl.EachOf(v).Parts, impl.EachOf(got.Value).Parts
	if got.Code != impl.OK || len(before) != len(after) {
		t.Fatalf("%v: %v", v, got)
	}
	for i, part := range after {
		if i > 0 && impl.CompareValues(after[i-1], part) > 0 {
			t.Fatalf("%v: element %d is not in order", v, i)
		}
		if countSame(before, part) != countSame(after, part) {
			t.Fatalf("%v: %v is there %d times, and was %d times", v, part, countSame(after, part), countSame(before, part))
		}
	}
	mustSame(t, impl.SortOf(got.Value), got.Value, "sorted twice", v)
}

func TestSortedHasAll(t *testing.T) {
	for _, v := range containers() {
		if v[0].Kind == impl.KindArray {
			checkSorted(t, v)
		}
	}
	for n := range 199 {
		var list []cells
		for i := range n {
			list = append(list, num(int64(i*i*31+i*7)%int64(n/3+1)))
		}
		checkSorted(t, arr(list...))
	}
}

// Every order of a few values, and many orders of many, are sorted the same.
func TestSortedTheSame(t *testing.T) {
	list := rising()
	for _, stride := range []int{1, 2, 5, 7, 11, 17, 23, 31} {
		var mixed []cells
		for i := range 2 * len(list) {
			mixed = append(mixed, list[(i*stride)%len(list)])
		}
		for cut := range len(list) {
			some := slices.Concat(mixed[cut:cut+20], mixed[cut+5:cut+10])
			checkSorted(t, arr(some...))
			sorted := impl.SortOf(arr(some...)).Value
			slices.Reverse(some)
			mustSame(t, impl.SortOf(arr(some...)), sorted, "stride", stride, "cut", cut)
		}
	}
	few := []cells{null(), num(1), str("a"), arr(), arr(num(1)), obj()}
	permute(few, 0, func(order []cells) {
		mustSame(t, impl.SortOf(arr(order...)), val(`[null,1,"a",[],[1],{}]`), order)
	})
}

func permute(list []cells, from int, do func([]cells)) {
	if from == len(list) {
		do(list)
	}
	for i := from; i < len(list); i++ {
		list[from], list[i] = list[i], list[from]
		permute(list, from+1, do)
		list[from], list[i] = list[i], list[from]
	}
}

// objects are null and the objects among the containers.
func objects() []cells {
	list := []cells{null()}
	for _, v := range containers() {
		if v[0].Kind == impl.KindObject {
			list = append(list, v)
		}
	}
	return list
}

func TestMemberSetIsGot(t *testing.T) {
	keys := []string{"", "a", "b", "c", "k", "k1000", "k1050", "~", strings.Repeat("k", 60)}
	for _, v := range objects() {
		for _, key := range keys {
			for _, x := range []cells{null(), num(1), arr(num(1), obj(member("a", num(2)))), obj(), nested(19)} {
				set := impl.SetKey(v, key, x)
				if set.Code == impl.OK {
					checkSet(t, v, key, x, set.Value, keys)
				} else if set.Code != impl.ErrMany || len(v)+len(x) <= impl.MaxCells {
					t.Errorf("%v with %v at %q: code %d", v, x, key, set.Code)
				}
			}
		}
	}
}

func checkSet(t *testing.T, v cells, key string, x, set cells, keys []string) {
	t.Helper()
	mustSame(t, impl.GetKey(set, key), x, "set at", key, "of", v)
	for _, other := range keys {
		if other != key {
			mustSame(t, impl.GetKey(set, other), impl.GetKey(v, other).Value, "beside", key, "at", other, "of", v)
		}
	}
	if !slices.Contains(keyTexts(set), key) {
		t.Errorf("%v has no key %q", set, key)
	}
	mustSame(t, impl.SetKey(set, key, x), set, "set twice at", key, v)
	if v[0].Kind == impl.KindObject {
		mustSame(t, impl.DropKey(set, key), impl.DropKey(v, key).Value, "set and dropped at", key, v)
		mustSame(t, impl.Binary(impl.OpAdd, v, impl.SetKey(null(), key, x).Value), set, "added at", key, v)
	}
}

func TestMemberDroppedIsNull(t *testing.T) {
	for _, v := range objects() {
		for _, key := range append(keyTexts(v), "a", "", "zz") {
			dropped := impl.DropKey(v, key)
			mustSame(t, impl.GetKey(dropped.Value, key), null(), "dropped at", key, "of", v)
			if slices.Contains(keyTexts(dropped.Value), key) {
				t.Errorf("%v still has the key %q", dropped, key)
			}
			for _, other := range keyTexts(v) {
				if other != key {
					mustSame(t, impl.GetKey(dropped.Value, other), impl.GetKey(v, other).Value, "dropped at", key, "got at", other, v)
				}
			}
			if slices.Contains(keyTexts(v), key) {
				mustSame(t, impl.SetKey(dropped.Value, key, impl.GetKey(v, key).Value), v, "dropped and set at", key)
			} else {
				mustSame(t, dropped, v, "dropped at no key", key)
			}
		}
	}
}

// An object comes of null by setting its members, in whatever order.
func TestMembersSetMakeTheObject(t *testing.T) {
	for _, v := range objects()[1:] {
		keys := keyTexts(v)
		for _, stride := range []int{1, len(keys) - 1} {
			made := obj()
			for i := range keys {
				key := keys[(i*max(1, stride))%len(keys)]
				made = impl.SetKey(made, key, impl.GetKey(v, key).Value).Value
			}
			if !impl.SameValues(made, v) {
				t.Errorf("%v, stride %d: %v", v, stride, made)
			}
			for _, key := range keys {
				made = impl.DropKey(made, key).Value
			}
			if !impl.SameValues(made, obj()) {
				t.Errorf("%v without its members: %v", v, made)
			}
		}
	}
}
