package tests

import (
	"encoding/json"
	"maps"
	"slices"
	"strconv"
	"strings"

	"loop.example/g00166/impl"
)

// fueled is how much there is to be spent, and how much was.
type fueled struct{ fuel, spent int64 }

// listed is a list that was made, and the code at its end.
type listed struct {
	list []sample
	code int64
}

func (l *listed) put(r impl.ValueResult) {
	if l.code = r.Code; r.Code == 0 {
		l.list = append(l.list, sampleOf(r.Value))
	}
}

func (l *listed) join(other listed) {
	l.list, l.code = append(l.list, other.list...), other.code
}

// each goes through a list that is made already.
func (l listed) each(do func(x sample) listed) (all listed) {
	for _, x := range l.list {
		if all.join(do(x)); all.code != 0 {
			return all
		}
	}
	all.code = l.code
	return all
}

// modelList is what a twig makes of a value: a list that is made to its end, with
// its code, ahead of anything that is made of it.
func (f *fueled) modelList(w *twig, v sample, vars map[int64]sample) (l listed) {
	if f.spent == f.fuel {
		return listed{code: impl.ErrFuel}
	}
	f.spent++
	of := func(i int) listed { return f.modelList(w.kids[i], v, vars) }
	pair := func(outer, inner int, do func(x, y sample) impl.ValueResult) {
		l = of(outer).each(func(x sample) listed {
			return of(inner).each(func(y sample) (one listed) { one.put(do(x, y)); return one })
		})
	}
	switch w.op {
	case impl.CoreSelf:
		l.list = []sample{v}
	case impl.CoreConst:
		l.put(made(w.val))
	case impl.CoreVar:
		l.list = []sample{vars[w.num]}
	case impl.CoreDo:
		l.put(modelNative(w.num, v))
	case impl.CorePipe:
		l = of(0).each(func(x sample) listed { return f.modelList(w.kids[1], x, vars) })
	case impl.CoreComma:
		if l.join(of(0)); l.code == 0 {
			l.join(of(1))
		}
	case impl.CoreBin:
		pair(1, 0, func(b, a sample) impl.ValueResult { return modelBinary(w.num, a, b) })
	case impl.CoreAt:
		pair(0, 1, modelGetAt)
	case impl.CoreMember:
		pair(0, 1, func(a, b sample) impl.ValueResult { return modelSetKey(a, w.val[0].Text, b) })
	case impl.CoreEach:
		l = of(0).each(modelParts)
	case impl.CoreTry:
		l = of(0).unfailing()
	case impl.CoreAlt:
		l = of(0).unfailing()
		l.list = slices.DeleteFunc(l.list, func(x sample) bool { return modelFalse(x) == 1 })
		if len(l.list) == 0 && l.code == 0 {
			l = of(1)
		}
	case impl.CoreList:
		l = modelGathered(of(0))
	case impl.CoreIf:
		l = of(0).each(func(x sample) listed { return of(1 + modelFalse(x)) })
	case impl.CoreAs:
		l = of(0).each(func(x sample) listed { return f.modelList(w.kids[1], v, withVar(vars, w.num, x)) })
	case impl.CoreReduce:
		l = of(1).each(func(state sample) listed { return f.modelReduced(w, v, vars, state) })
	}
	return l
}

// unfailing leaves the code out, but ErrFuel.
func (l listed) unfailing() listed {
	if l.code != impl.ErrFuel {
		l.code = 0
	}
	return l
}

// modelFalse is 1 for null and false.
func modelFalse(s sample) int {
	if s.tree == nil || s.tree == false {
		return 1
	}
	return 0
}

func withVar(vars map[int64]sample, slot int64, x sample) map[int64]sample {
	more := map[int64]sample{slot: x}
	for old, v := range vars {
		if old != slot {
			more[old] = v
		}
	}
	return more
}

func modelParts(s sample) (l listed) {
	parts := modelEach(s)
	for _, part := range parts.Parts {
		l.put(made(part))
	}
	l.code = parts.Code
	return l
}

func modelGathered(a listed) (l listed) {
	var list []cells
	for _, x := range a.list {
		list = append(list, x.v)
		if l.code = modelFault(arr(list...)); l.code != 0 {
			return l
		}
	}
	if l.code = a.code; l.code == 0 {
		l.put(made(arr(list...)))
	}
	return l
}

func (f *fueled) modelReduced(w *twig, v sample, vars map[int64]sample, state sample) listed {
	a := f.modelList(w.kids[0], v, vars)
	for _, x := range a.list {
		c := f.modelList(w.kids[2], state, withVar(vars, w.num, x))
		if c.code != 0 {
			return listed{code: c.code}
		}
		state = sampleOf(null())
		if len(c.list) > 0 {
			state = c.list[len(c.list)-1]
		}
	}
	if a.code != 0 {
		return listed{code: a.code}
	}
	return listed{list: []sample{state}}
}

func modelRun(w *twig, v cells, fuel int64) impl.RunResult {
	f := fueled{fuel: fuel}
	l := f.modelList(w, sampleOf(v), nil)
	r := impl.RunResult{Code: l.code, Spent: f.spent}
	for _, x := range l.list {
		r.Outs = append(r.Outs, x.v)
	}
	if len(r.Outs) > 300 {
		r.Code, r.Outs = impl.ErrMany, r.Outs[:300]
	}
	return r
}

func modelFirst(r impl.RunResult) impl.ValueResult {
	if len(r.Outs) > 0 {
		return impl.ValueResult{Value: r.Outs[0]}
	}
	if r.Code == 0 {
		return failing(impl.ErrNone)
	}
	return failing(r.Code)
}

// ranAs is a run as a text: what it made, "!" and its code, if it is one, "~" and
// what it spent.
func ranAs(r impl.RunResult) string {
	words := []string{"~" + strconv.FormatInt(r.Spent, 10)}
	if r.Code != 0 {
		words = append([]string{code(r.Code)}, words...)
	}
	var outs []string
	for _, out := range r.Outs {
		outs = append(outs, told(impl.ValueResult{Value: out}))
	}
	return strings.Join(append(outs, words...), " ")
}

// readTwig reads what String tells.
func readTwig(text string) *twig {
	w, rest := readTwigAhead(text)
	if rest != "" {
		panic(text)
	}
	return w
}

func readTwigAhead(text string) (*twig, string) {
	rest := strings.TrimLeft(text, "abcdefghijklmnopqrstuvwxyz")
	word := strings.TrimSuffix(text, rest)
	w := tw(int64(slices.IndexFunc(modelCores, func(names [2]string) bool { return names[0] == word })))
	if strings.HasPrefix(rest, ":") {
		behind := strings.TrimLeft(rest[1:], "0123456789")
		w.num, _ = strconv.ParseInt(strings.TrimSuffix(rest[1:], behind), 10, 64)
		rest = behind
	}
	if strings.HasPrefix(rest, "=") {
		var value json.RawMessage
		d := json.NewDecoder(strings.NewReader(rest[1:]))
		if err := d.Decode(&value); err != nil {
			panic(text)
		}
		w.val = val(string(value))
		rest = rest[1+d.InputOffset():]
	}
	for mark := "("; strings.HasPrefix(rest, mark); mark = " " {
		var kid *twig
		kid, rest = readTwigAhead(rest[1:])
		w.kids = append(w.kids, kid)
	}
	if len(w.kids) > 0 {
		rest = strings.TrimPrefix(rest, ")")
	}
	if w.op < 1 || len(w.kids) != coreKids(w.op) {
		panic(text)
	}
	return w, rest
}

// namedTwigs are read from texts in which a word that begins with a capital
// letter stands for another text.
func namedTwigs(names map[string]string, text string) *twig {
	for _, name := range slices.Backward(slices.Sorted(maps.Keys(names))) {
		text = strings.ReplaceAll(text, name, names[name])
	}
	return readTwig(text)
}
