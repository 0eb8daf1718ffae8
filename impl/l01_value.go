package impl

import (
	"cmp"
	"slices"
	"strings"
)

const OK = 0
const ErrForm = 1
const ErrMany = 2
const ErrRange = 3
const ErrNone = 4
const ErrText = 5
const ErrKind = 6
const ErrDeep = 7
const ErrFuel = 8
const ErrCode = 9
const ErrFull = 10
const MaxCells = 200
const MaxDepth = 20
const MaxNumber = 1000000000000000
const MaxString = 60

// Values of unlike kinds are compared by these numbers, so their order counts.
const (
	KindNull = iota
	KindFalse
	KindTrue
	KindNumber
	KindString
	KindArray
	KindObject
)

type Cell struct {
	Kind int64
	Num  int64
	Text string
	Key  string
	N    int64
}
type ValueResult struct {
	Code  int64
	Value []Cell
}
type IntResult struct {
	Code  int64
	Value int64
}
type IntsResult struct {
	Code int64
	List []int64
}

// walked is what a walk over one value finds out.
type walked struct {
	end   int64 // the place behind its last cell
	depth int64
	sound bool // no cell is missing, no key is out of place
}

func ValueFault(v []Cell) int64 {
	if len(v) < 1 || len(v) > MaxCells {
		return ErrMany
	}
	for _, c := range v {
		if code := cellFault(c); code != OK {
			return code
		}
	}
	whole := walkValue(v, 0)
	if !whole.sound || whole.end != int64(len(v)) || v[0].Key != "" {
		return ErrForm
	}
	if whole.depth > MaxDepth {
		return ErrDeep
	}
	return OK
}

func EndAt(v []Cell, at int64) IntResult {
	if code := placeFault(v, at); code != OK {
		return IntResult{Code: code}
	}
	return IntResult{Value: endOf(v, at)}
}

func ChildrenAt(v []Cell, at int64) IntsResult {
	if code := placeFault(v, at); code != OK {
		return IntsResult{Code: code}
	}
	return IntsResult{List: childPlaces(v, at)}
}

func PartAt(v []Cell, at int64) ValueResult {
	if code := placeFault(v, at); code != OK {
		return ValueResult{Code: code}
	}
	return ValueResult{Value: partOf(v, at)}
}

func CompareValues(a []Cell, b []Cell) int64 {
	if ValueFault(a) != OK || ValueFault(b) != OK {
		return 0
	}
	return compareAt(a, 0, b, 0)
}

func SameValues(a []Cell, b []Cell) bool {
	if ValueFault(a) != OK || ValueFault(b) != OK {
		return false
	}
	return compareAt(a, 0, b, 0) == 0
}

func NumberValue(n int64) ValueResult {
	if !numberFits(n) {
		return ValueResult{Code: ErrRange}
	}
	return ValueResult{Value: []Cell{{Kind: KindNumber, Num: n}}}
}

func StringValue(s string) ValueResult {
	if !textFits(s) {
		return ValueResult{Code: ErrText}
	}
	return ValueResult{Value: []Cell{{Kind: KindString, Text: s}}}
}

func ArrayValue(list [][]Cell) ValueResult {
	if len(list) > MaxCells {
		return ValueResult{Code: ErrMany}
	}
	if code := firstFault(list); code != OK {
		return ValueResult{Code: code}
	}
	return checkedValue(layArray(list))
}

func ObjectValue(keys []string, list [][]Cell) ValueResult {
	if len(keys) > MaxCells || len(keys) != len(list) {
		return ValueResult{Code: ErrMany}
	}
	for _, key := range keys {
		if !textFits(key) {
			return ValueResult{Code: ErrText}
		}
	}
	if code := firstFault(list); code != OK {
		return ValueResult{Code: code}
	}
	return checkedValue(layObject(keys, list))
}

func Truthy(v []Cell) bool {
	return ValueFault(v) == OK && v[0].Kind != KindNull && v[0].Kind != KindFalse
}

func DepthOf(v []Cell) IntResult {
	if code := ValueFault(v); code != OK {
		return IntResult{Code: code}
	}
	return IntResult{Value: walkValue(v, 0).depth}
}

// cellFault asks of a cell what can be asked without those around it.
func cellFault(c Cell) int64 {
	if c.Kind < KindNull || c.Kind > KindObject {
		return ErrKind
	}
	if c.Num != 0 && c.Kind != KindNumber ||
		c.Text != "" && c.Kind != KindString ||
		c.N != 0 && c.Kind != KindArray && c.Kind != KindObject {
		return ErrForm
	}
	if !numberFits(c.Num) || c.N < 0 || c.N > MaxCells {
		return ErrRange
	}
	if !textFits(c.Text) || !textFits(c.Key) {
		return ErrText
	}
	return OK
}

func numberFits(n int64) bool {
	return -MaxNumber <= n && n <= MaxNumber
}

func textFits(s string) bool {
	if len(s) > MaxString {
		return false
	}
	for i := range len(s) {
		if s[i] < 32 || s[i] > 126 {
			return false
		}
	}
	return true
}

// walkValue calls itself at most once a cell, and so ends even where the value
// is deeper than it may be.
func walkValue(v []Cell, at int64) walked {
	whole := walked{end: at + 1, depth: 1, sound: true}
	last := ""
	for i := range v[at].N {
		if whole.end >= int64(len(v)) {
			return walked{}
		}
		key := v[whole.end].Key
		if v[at].Kind == KindArray && key != "" {
			return walked{}
		}
		// The first key has none ahead of it that it must be above: it may be empty.
		if v[at].Kind == KindObject && i > 0 && key <= last {
			return walked{}
		}
		part := walkValue(v, whole.end)
		if !part.sound {
			return walked{}
		}
		whole.end = part.end
		whole.depth = max(whole.depth, part.depth+1)
		last = key
	}
	return whole
}

func placeFault(v []Cell, at int64) int64 {
	if code := ValueFault(v); code != OK {
		return code
	}
	if at < 0 || at >= int64(len(v)) {
		return ErrRange
	}
	return OK
}

// endOf counts the cells that are still owed; v must have no fault.
func endOf(v []Cell, at int64) int64 {
	for owed := int64(1); owed > 0; at++ {
		owed += v[at].N - 1
	}
	return at
}

func childPlaces(v []Cell, at int64) []int64 {
	var places []int64
	next := at + 1
	for range v[at].N {
		places = append(places, next)
		next = endOf(v, next)
	}
	return places
}

// partOf is the value at at by itself.
func partOf(v []Cell, at int64) []Cell {
	return appendPart(nil, v[at:endOf(v, at)], "")
}

// appendPart lays a copy of part behind v; its first cell gets key in place of
// the one it had.
func appendPart(v []Cell, part []Cell, key string) []Cell {
	first := len(v)
	v = append(v, part...)
	v[first].Key = key
	return v
}

// layArray lays the elements behind their array, however many they are.
func layArray(list [][]Cell) []Cell {
	v := []Cell{{Kind: KindArray, N: int64(len(list))}}
	for _, part := range list {
		v = appendPart(v, part, "")
	}
	return v
}

// layObject lays the members behind their object, however many they are: of
// several of one key the last one.
func layObject(keys []string, list [][]Cell) []Cell {
	places := standingMembers(keys)
	v := []Cell{{Kind: KindObject, N: int64(len(places))}}
	for _, place := range places {
		v = appendPart(v, list[place], keys[place])
	}
	return v
}

func firstFault(list [][]Cell) int64 {
	for _, v := range list {
		if code := ValueFault(v); code != OK {
			return code
		}
	}
	return OK
}

func checkedValue(v []Cell) ValueResult {
	if code := ValueFault(v); code != OK {
		return ValueResult{Code: code}
	}
	return ValueResult{Value: v}
}

// standingMembers tells the place of the last member of each key, in the order
// of keys.
func standingMembers(keys []string) []int {
	var places []int
	for place := range keys {
		places = append(places, place)
	}
	slices.SortStableFunc(places, func(i, j int) int {
		return strings.Compare(keys[i], keys[j])
	})
	var standing []int
	for i, place := range places {
		if i+1 == len(places) || keys[place] != keys[places[i+1]] {
			standing = append(standing, place)
		}
	}
	return standing
}

// compareAt compares the value at i of a with the one at j of b. Both are the
// whole of a and b, elements, or members of one key: their own keys are alike.
func compareAt(a []Cell, i int64, b []Cell, j int64) int64 {
	x, y := a[i], b[j]
	if x != y {
		if order := compareCells(x, y); order != 0 {
			return order
		}
	}
	// Cells of one kind that are left so have nothing but their lists to tell
	// them apart: N alone does not, the first unlike element comes ahead of it.
	left, right := childPlaces(a, i), childPlaces(b, j)
	if x.Kind == KindObject {
		if order := compareKeys(a, left, b, right); order != 0 {
			return order
		}
	}
	for n := range min(len(left), len(right)) {
		if order := compareAt(a, left[n], b, right[n]); order != 0 {
			return order
		}
	}
	return int64(cmp.Compare(len(left), len(right)))
}

func compareCells(x Cell, y Cell) int64 {
	return int64(cmp.Or(
		cmp.Compare(x.Kind, y.Kind),
		cmp.Compare(x.Num, y.Num),
		strings.Compare(x.Text, y.Text),
	))
}

func compareKeys(a []Cell, left []int64, b []Cell, right []int64) int64 {
	for n := range min(len(left), len(right)) {
		if order := strings.Compare(a[left[n]].Key, b[right[n]].Key); order != 0 {
			return int64(order)
		}
	}
	return int64(cmp.Compare(len(left), len(right)))
}
