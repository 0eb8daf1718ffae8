package tests

import (
	"encoding/json"
	"maps"
	"slices"
	"strconv"
	"strings"

	"loop.example/g00166/impl"
)

// trail is all that a node spends and makes of a value, in order, with fuel
// enough: what it does with less is a piece of it.
type trail struct {
	steps []step
	code  int64
}

// step is a value that was made, or one that was spent.
type step struct{ out *sample }

func (t *trail) put(r impl.ValueResult) {
	if t.code = r.Code; r.Code == 0 {
		s := sampleOf(r.Value)
		t.steps = append(t.steps, step{&s})
	}
}

func (t *trail) join(other trail) {
	t.steps, t.code = append(t.steps, other.steps...), other.code
}

// through goes on with what is made of each that the other one makes.
func (t *trail) through(other trail, do func(x sample) trail) {
	for _, s := range other.steps {
		if s.out == nil {
			t.steps = append(t.steps, s)
		} else if t.join(do(*s.out)); t.code != 0 {
			return
		}
	}
	t.code = other.code
}

func modelTrail(w *twig, v sample, vars map[int64]sample) trail {
	t := trail{steps: []step{{}}}
	of := func(i int) trail { return modelTrail(w.kids[i], v, vars) }
	pair := func(outer, inner int, do func(x, y sample) impl.ValueResult) {
		t.through(of(outer), func(x sample) (rounds trail) {
			rounds.through(of(inner), func(y sample) (one trail) { one.put(do(x, y)); return one })
			return rounds
		})
	}
	switch w.op {
	case impl.CoreSelf:
		t.put(made(v.v))
	case impl.CoreConst:
		t.put(made(w.val))
	case impl.CoreVar:
		t.put(made(vars[w.num].v))
	case impl.CoreDo:
		t.put(modelNative(w.num, v))
	case impl.CorePipe:
		t.through(of(0), func(x sample) trail { return modelTrail(w.kids[1], x, vars) })
	case impl.CoreComma:
		if t.join(of(0)); t.code == 0 {
			t.join(of(1))
		}
	case impl.CoreBin:
		pair(1, 0, func(b, a sample) impl.ValueResult { return modelBinary(w.num, a, b) })
	case impl.CoreAt:
		pair(0, 1, modelGetAt)
	case impl.CoreMember:
		pair(0, 1, func(a, b sample) impl.ValueResult { return modelSetKey(a, w.val[0].Text, b) })
	case impl.CoreEach:
		t.through(of(0), modelEachTrail)
	case impl.CoreTry:
		t.steps = append(t.steps, of(0).steps...)
	case impl.CoreAlt:
		modelAlt(&t, of(0), func() trail { return of(1) })
	case impl.CoreList:
		modelList(&t, of(0))
	case impl.CoreIf:
		t.through(of(0), func(x sample) trail { return of(1 + modelFalse(x)) })
	case impl.CoreAs:
		t.through(of(0), func(x sample) trail { return modelTrail(w.kids[1], v, withVar(vars, w.num, x)) })
	case impl.CoreReduce:
		t.through(of(1), func(state sample) trail { return modelReduced(w, v, vars, state) })
	}
	return t
}

// modelFalse is 1 for null and false.
func modelFalse(s sample) int {
	if s.tree == nil || s.tree == false {
		return 1
	}
	return 0
}

func withVar(vars map[int64]sample, slot int64, x sample) map[int64]sample {
	more := map[int64]sample{slot: x}
	for old, v := range vars {
		if old != slot {
			more[old] = v
		}
	}
	return more
}

func modelEachTrail(s sample) (t trail) {
	parts := modelEach(s)
	for _, part := range parts.Parts {
		t.put(made(part))
	}
	t.code = parts.Code
	return t
}

func modelAlt(t *trail, a trail, b func() trail) {
	kept := slices.DeleteFunc(slices.Clone(a.steps), func(s step) bool { return s.out != nil && modelFalse(*s.out) == 1 })
	t.steps = append(t.steps, kept...)
	if !slices.ContainsFunc(kept, func(s step) bool { return s.out != nil }) {
		t.join(b())
	}
}

func modelList(t *trail, a trail) {
	var list []cells
	for _, s := range a.steps {
		if s.out == nil {
			t.steps = append(t.steps, s)
			continue
		}
		list = append(list, s.out.v)
		if t.code = modelFault(arr(list...)); t.code != 0 {
			return
		}
	}
	if t.code = a.code; t.code == 0 {
		t.put(made(arr(list...)))
	}
}

func modelReduced(w *twig, v sample, vars map[int64]sample, state sample) (t trail) {
	a := modelTrail(w.kids[0], v, vars)
	for _, s := range a.steps {
		if s.out == nil {
			t.steps = append(t.steps, s)
			continue
		}
		c := modelTrail(w.kids[2], state, withVar(vars, w.num, *s.out))
		state = sampleOf(null())
		for _, s := range c.steps {
			if s.out == nil {
				t.steps = append(t.steps, s)
			} else {
				state = *s.out
			}
		}
		if t.code = c.code; t.code != 0 {
			return t
		}
	}
	if t.code = a.code; t.code == 0 {
		t.put(made(state.v))
	}
	return t
}

// run is the piece of a trail that this fuel is enough for.
func (t trail) run(fuel int64) impl.RunResult {
	r := impl.RunResult{Code: t.code}
	for _, s := range t.steps {
		if s.out != nil {
			r.Outs = append(r.Outs, s.out.v)
		} else if r.Spent == fuel {
			r.Code = impl.ErrFuel
			break
		} else {
			r.Spent++
		}
	}
	if len(r.Outs) > 300 {
		r.Code, r.Outs = impl.ErrMany, r.Outs[:300]
	}
	return r
}

func (t trail) spends() int64 {
	return t.run(1 << 40).Spent
}

func modelFirst(r impl.RunResult) impl.ValueResult {
	if len(r.Outs) > 0 {
		return impl.ValueResult{Value: r.Outs[0]}
	}
	if r.Code == 0 {
		return failing(impl.ErrNone)
	}
	return failing(r.Code)
}

// ranAs is a run as a text: what it made, "!" and its code, if it is one, "~" and
// what it spent.
func ranAs(r impl.RunResult) string {
	words := []string{"~" + strconv.FormatInt(r.Spent, 10)}
	if r.Code != 0 {
		words = append([]string{code(r.Code)}, words...)
	}
	var outs []string
	for _, out := range r.Outs {
		outs = append(outs, told(impl.ValueResult{Value: out}))
	}
	return strings.Join(append(outs, words...), " ")
}

// readTwig reads what String tells.
func readTwig(text string) *twig {
	w, rest := readTwigAhead(text)
	if rest != "" {
		panic(text)
	}
	return w
}

func readTwigAhead(text string) (*twig, string) {
	rest := strings.TrimLeft(text, "abcdefghijklmnopqrstuvwxyz")
	word := strings.TrimSuffix(text, rest)
	w := tw(int64(slices.IndexFunc(modelCores, func(names [2]string) bool { return names[0] == word })))
	if strings.HasPrefix(rest, ":") {
		behind := strings.TrimLeft(rest[1:], "0123456789")
		w.num, _ = strconv.ParseInt(strings.TrimSuffix(rest[1:], behind), 10, 64)
		rest = behind
	}
	if strings.HasPrefix(rest, "=") {
		var value json.RawMessage
		d := json.NewDecoder(strings.NewReader(rest[1:]))
		if err := d.Decode(&value); err != nil {
			panic(text)
		}
		w.val = val(string(value))
		rest = rest[1+d.InputOffset():]
	}
	for mark := "("; strings.HasPrefix(rest, mark); mark = " " {
		var kid *twig
		kid, rest = readTwigAhead(rest[1:])
		w.kids = append(w.kids, kid)
	}
	if len(w.kids) > 0 {
		rest = strings.TrimPrefix(rest, ")")
	}
	if w.op < 1 || len(w.kids) != coreKids(w.op) {
		panic(text)
	}
	return w, rest
}

// namedTwigs are read from texts in which a word that begins with a capital
// letter stands for another text.
func namedTwigs(names map[string]string, text string) *twig {
	for _, name := range slices.Backward(slices.Sorted(maps.Keys(names))) {
		text = strings.ReplaceAll(text, name, names[name])
	}
	return readTwig(text)
}
