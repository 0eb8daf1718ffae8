package tests

import (
	"cmp"
	"slices"
	"strings"

	"loop.example/g00166/impl"
)

// Values are laid here by hand, cell by cell, so that the program's own makers
// are not what the tests lean on.

type cells = []impl.Cell

func null() cells        { return cells{{Kind: impl.KindNull}} }
func no() cells          { return cells{{Kind: impl.KindFalse}} }
func yes() cells         { return cells{{Kind: impl.KindTrue}} }
func num(n int64) cells  { return cells{{Kind: impl.KindNumber, Num: n}} }
func str(s string) cells { return cells{{Kind: impl.KindString, Text: s}} }

func arr(list ...cells) cells {
	v := cells{{Kind: impl.KindArray, N: int64(len(list))}}
	for _, part := range list {
		v = append(v, part...)
	}
	return v
}

// obj lays members as they are handed in: their keys need not rise.
func obj(members ...cells) cells {
	v := cells{{Kind: impl.KindObject, N: int64(len(members))}}
	for _, m := range members {
		v = append(v, m...)
	}
	return v
}

func member(key string, v cells) cells {
	m := slices.Clone(v)
	m[0].Key = key
	return m
}

// nested is a number within depth-1 arrays.
func nested(depth int) cells {
	v := num(1)
	for range depth - 1 {
		v = arr(v)
	}
	return v
}

// repeat is n times v, as a list.
func repeat(n int, v cells) []cells {
	var list []cells
	for range n {
		list = append(list, v)
	}
	return list
}

// model is a value as a tree: what the lists of cells are held against.
type model struct {
	kind int64
	num  int64
	text string
	keys []string
	kids []model
	size int
}

// readModel reads one value from the beginning of v.
func readModel(v cells) (model, bool) {
	if len(v) == 0 {
		return model{}, false
	}
	m := model{kind: v[0].Kind, num: v[0].Num, text: v[0].Text, size: 1}
	for range v[0].N {
		if m.size >= len(v) {
			return model{}, false
		}
		kid, ok := readModel(v[m.size:])
		if !ok {
			return model{}, false
		}
		m.keys = append(m.keys, v[m.size].Key)
		m.kids = append(m.kids, kid)
		m.size += kid.size
	}
	return m, true
}

func (m model) depth() int64 {
	deepest := int64(0)
	for _, kid := range m.kids {
		deepest = max(deepest, kid.depth())
	}
	return deepest + 1
}

func (m model) keysFit() bool {
	for i, key := range m.keys {
		if m.kind == impl.KindArray && key != "" {
			return false
		}
		if m.kind == impl.KindObject && i > 0 && strings.Compare(m.keys[i-1], key) >= 0 {
			return false
		}
	}
	for _, kid := range m.kids {
		if !kid.keysFit() {
			return false
		}
	}
	return true
}

func badText(s string) bool {
	return len(s) > 60 || strings.ContainsFunc(s, func(r rune) bool { return r < 32 || r > 126 })
}

func modelCellFault(c impl.Cell) int64 {
	list := c.Kind == 5 || c.Kind == 6
	switch {
	case !slices.Contains([]int64{0, 1, 2, 3, 4, 5, 6}, c.Kind):
		return impl.ErrKind
	case c.Kind != 3 && c.Num != 0, c.Kind != 4 && c.Text != "", !list && c.N != 0:
		return impl.ErrForm
	case c.Num < -1000000000000000, c.Num > 1000000000000000, c.N < 0, c.N > 200:
		return impl.ErrRange
	case badText(c.Text), badText(c.Key):
		return impl.ErrText
	}
	return impl.OK
}

func modelFault(v cells) int64 {
	if len(v) == 0 || len(v) > 200 {
		return impl.ErrMany
	}
	for _, c := range v {
		if code := modelCellFault(c); code != 0 {
			return code
		}
	}
	m, ok := readModel(v)
	switch {
	case !ok, m.size != len(v), v[0].Key != "", !m.keysFit():
		return impl.ErrForm
	case m.depth() > 20:
		return impl.ErrDeep
	}
	return impl.OK
}

func modelOrder(a, b model) int {
	if order := cmp.Compare(a.kind, b.kind); order != 0 {
		return order
	}
	switch a.kind {
	case impl.KindNumber:
		return cmp.Compare(a.num, b.num)
	case impl.KindString:
		return cmp.Compare(a.text, b.text)
	case impl.KindObject:
		if order := slices.Compare(a.keys, b.keys); order != 0 {
			return order
		}
	}
	return slices.CompareFunc(a.kids, b.kids, modelOrder)
}

// rising is a list of values, each of them above the one ahead of it.
func rising() []cells {
	return []cells{
		null(), no(), yes(),
		num(-impl.MaxNumber), num(-2), num(-1), num(0), num(1), num(9), num(10), num(impl.MaxNumber),
		str(""), str(" "), str("0"), str("A"), str("Z"), str("a"), str("a "), str("aa"), str("ab"), str("b"), str("~"),
		arr(), arr(null()), arr(null(), null()), arr(null(), no()), arr(no()), arr(yes(), obj()),
		arr(num(1)), arr(num(1), num(1)), arr(num(1), num(2), num(0)), arr(num(1), num(3)), arr(num(2)),
		arr(str("b")), arr(arr()), arr(arr(), num(5)), arr(arr(null(), null()), num(4)), arr(arr(no())), arr(obj()),
		arr(obj(member("a", num(1)), member("b", num(2))), num(0)),
		arr(obj(member("b", num(0)))),
		obj(),
		obj(member("", num(7))),
		obj(member("", num(8))),
		obj(member("", null()), member("a", null())),
		obj(member("a", num(1))),
		obj(member("a", num(9))),
		obj(member("a", arr(num(1), num(2)))),
		obj(member("a", arr(num(2)))),
		obj(member("a", obj())),
		obj(member("a", num(9)), member("b", num(0))),
		obj(member("a", num(9)), member("b", num(1))),
		obj(member("a", null()), member("c", null())),
		obj(member("a", num(0)), member("c", num(0)), member("d", num(0))),
		obj(member("aa", num(0))),
		obj(member("b", null())),
		obj(member("b", obj(member("a", num(1))))),
		obj(member("b", obj(member("a", num(2))))),
		obj(member("b", obj(member("b", num(1))))),
	}
}

// faulty is a list of cells with each kind of fault, and the code it has.
func faulty() []struct {
	v    cells
	code int64
} {
	long := strings.Repeat("x", 61)
	return []struct {
		v    cells
		code int64
	}{
		{nil, impl.ErrMany},
		{cells{}, impl.ErrMany},
		{arr(repeat(200, null())...), impl.ErrMany},
		{slices.Concat(repeat(201, null())...), impl.ErrMany},
		{cells{{Kind: -1}}, impl.ErrKind},
		{cells{{Kind: 7}}, impl.ErrKind},
		{cells{{Kind: -1 << 63}}, impl.ErrKind},
		{cells{{Kind: 1<<63 - 1}}, impl.ErrKind},
		{cells{{Kind: impl.KindNull, Num: 1}}, impl.ErrForm},
		{cells{{Kind: impl.KindFalse, Text: "x"}}, impl.ErrForm},
		{cells{{Kind: impl.KindTrue, N: 1}, {}}, impl.ErrForm},
		{cells{{Kind: impl.KindNumber, Text: "1"}}, impl.ErrForm},
		{cells{{Kind: impl.KindNumber, N: 1}, {}}, impl.ErrForm},
		{cells{{Kind: impl.KindString, Num: -1}}, impl.ErrForm},
		{cells{{Kind: impl.KindString, N: -1}}, impl.ErrForm},
		{cells{{Kind: impl.KindArray, Num: 1}}, impl.ErrForm},
		{cells{{Kind: impl.KindArray, Text: "x"}}, impl.ErrForm},
		{cells{{Kind: impl.KindObject, Num: 1}}, impl.ErrForm},
		{cells{{Kind: impl.KindObject, Text: "x"}}, impl.ErrForm},
		{num(impl.MaxNumber + 1), impl.ErrRange},
		{num(-impl.MaxNumber - 1), impl.ErrRange},
		{num(1<<63 - 1), impl.ErrRange},
		{num(-1 << 63), impl.ErrRange},
		{cells{{Kind: impl.KindArray, N: -1}}, impl.ErrRange},
		{cells{{Kind: impl.KindArray, N: 201}}, impl.ErrRange},
		{cells{{Kind: impl.KindObject, N: -1 << 63}}, impl.ErrRange},
		{cells{{Kind: impl.KindObject, N: 1<<63 - 1}}, impl.ErrRange},
		{str(long), impl.ErrText},
		{str("a\x1fb"), impl.ErrText},
		{str("\x00"), impl.ErrText},
		{str("a\x7f"), impl.ErrText},
		{str("é"), impl.ErrText},
		{str("\xff"), impl.ErrText},
		{obj(member(long, null())), impl.ErrText},
		{obj(member("\n", null())), impl.ErrText},
		{obj(member("\x7f", null())), impl.ErrText},
		{member("\t", null()), impl.ErrText},
		{cells{{Kind: impl.KindArray, N: 1}}, impl.ErrForm},
		{cells{{Kind: impl.KindArray, N: 200}, {}}, impl.ErrForm},
		{cells{{Kind: impl.KindObject, N: 2}, {Key: "a"}}, impl.ErrForm},
		{arr(num(1), cells{{Kind: impl.KindArray, N: 2}}, num(2)), impl.ErrForm},
		{slices.Concat(null(), null()), impl.ErrForm},
		{slices.Concat(arr(), null()), impl.ErrForm},
		{slices.Concat(arr(num(1)), num(2)), impl.ErrForm},
		{member("a", null()), impl.ErrForm},
		{member("a", arr(num(1))), impl.ErrForm},
		{arr(member("a", null())), impl.ErrForm},
		{arr(null(), member("a", null())), impl.ErrForm},
		{obj(member("a", arr(member("b", num(1))))), impl.ErrForm},
		{obj(member("b", null()), member("a", null())), impl.ErrForm},
		{obj(member("a", null()), member("a", null())), impl.ErrForm},
		{obj(member("", null()), member("", null())), impl.ErrForm},
		{obj(member("a", null()), null()), impl.ErrForm},
		{obj(member("a", null()), member("c", null()), member("b", null())), impl.ErrForm},
		{obj(member("ab", null()), member("a", null())), impl.ErrForm},
		{obj(member("a", null()), member("B", null())), impl.ErrForm},
		{arr(obj(member("b", null()), member("a", null()))), impl.ErrForm},
		{nested(21), impl.ErrDeep},
		{arr(num(1), nested(20)), impl.ErrDeep},
		{obj(member("a", nested(20)), member("b", num(1))), impl.ErrDeep},
		{nested(200), impl.ErrDeep},
	}
}

// edges are values without a fault that stand at the bounds.
func edges() []cells {
	return []cells{
		arr(repeat(199, null())...),
		nested(20),
		arr(nested(19), num(1)),
		obj(member("k", nested(19))),
		num(impl.MaxNumber), num(-impl.MaxNumber),
		str(strings.Repeat("x", 60)), str(" ~"),
		obj(member(strings.Repeat("k", 60), null())),
		obj(member("", arr()), member(" ", obj()), member("~", str(""))),
	}
}

// sound is all of the values above that have no fault.
func sound() []cells {
	return slices.Concat(rising(), edges())
}

// shortLists are all lists of at most n of these cells.
func shortLists(alphabet cells, n int) []cells {
	lists := []cells{nil}
	longest := lists
	for range n {
		var longer []cells
		for _, list := range longest {
			for _, c := range alphabet {
				longer = append(longer, append(slices.Clone(list), c))
			}
		}
		lists = append(lists, longer...)
		longest = longer
	}
	return lists
}
