package tests

import (
	"encoding/json"
	"slices"
	"strconv"
	"strings"

	"loop.example/g00166/impl"
)

// Paths are told here without any function that calls itself: all that is met on
// the way in is written down, and what comes is put together on the way out.

func modelPathFault(p sample) int64 {
	if p.fault != 0 {
		return p.fault
	}
	list, ok := p.tree.([]any)
	if !ok {
		return impl.ErrKind
	}
	for _, step := range list {
		switch step.(type) {
		case string, json.Number:
		default:
			return impl.ErrKind
		}
	}
	return 0
}

func modelPathed(v, p sample) int64 {
	if v.fault != 0 {
		return v.fault
	}
	return modelPathFault(p)
}

// modelSteps are the elements of a path, each as a value of its own.
func modelSteps(p sample) []sample {
	return samplesOf(treeParts(p.tree))
}

func modelGetPath(v, p sample) impl.ValueResult {
	if code := modelPathed(v, p); code != 0 {
		return failing(code)
	}
	got := made(v.v)
	for _, step := range modelSteps(p) {
		got = modelGetAt(sampleOf(got.Value), step)
		if got.Code != 0 {
			return got
		}
	}
	return got
}

// modelStand is a value on the way in, and what is done there: with the member of a
// key, or with the element n of a list that is long enough for it.
type modelStand struct {
	v    sample
	key  string
	list []any
	n    int64
}

// modelEnter tells the stand at v and what is there.
func modelEnter(v, step sample) (modelStand, impl.ValueResult) {
	if key, ok := step.tree.(string); ok {
		return modelStand{v: v, key: key}, modelGetKey(v, key)
	}
	n := step.model.num
	list, ok := v.tree.([]any)
	switch {
	case !ok && v.tree != nil:
		return modelStand{}, failing(impl.ErrKind)
	case n < -int64(len(list)):
		return modelStand{}, failing(impl.ErrRange)
	case n >= 200:
		return modelStand{}, failing(impl.ErrMany)
	}
	if n < 0 {
		n = int64(len(list)) + n
	}
	long := make([]any, max(int64(len(list)), n+1))
	copy(long, list)
	return modelStand{v: v, list: long, n: n}, made(cellsOf(long[n]))
}

func (s modelStand) leave(x sample) impl.ValueResult {
	if s.list == nil {
		return modelSetKey(s.v, s.key, x)
	}
	list := slices.Clone(s.list)
	list[s.n] = x.tree
	return made(cellsOf(list))
}

func modelLeaveAll(stands []modelStand, x cells) impl.ValueResult {
	out := made(x)
	for _, stand := range slices.Backward(stands) {
		out = stand.leave(sampleOf(out.Value))
		if out.Code != 0 {
			return out
		}
	}
	return out
}

func modelSetPath(v, p, x sample) impl.ValueResult {
	if code := modelPathed(v, p); code != 0 {
		return failing(code)
	}
	if x.fault != 0 {
		return failing(x.fault)
	}
	var stands []modelStand
	at := v
	for _, step := range modelSteps(p) {
		stand, in := modelEnter(at, step)
		if in.Code != 0 {
			return in
		}
		stands, at = append(stands, stand), sampleOf(in.Value)
	}
	return modelLeaveAll(stands, x.v)
}

// modelDropPath leaves by the stands of what is there: none of them puts a null.
func modelDropPath(v, p sample) impl.ValueResult {
	if code := modelPathed(v, p); code != 0 {
		return failing(code)
	}
	steps := modelSteps(p)
	if len(steps) == 0 {
		return made(null())
	}
	last := len(steps) - 1
	var stands []modelStand
	at := v
	for _, step := range steps[:last] {
		in := modelGetAt(at, step)
		if in.Code != 0 {
			return in
		}
		if in.Value[0].Kind == impl.KindNull {
			return made(v.v)
		}
		stand, _ := modelEnter(at, step)
		stands, at = append(stands, stand), sampleOf(in.Value)
	}
	left := modelDropStep(at, steps[last])
	if left.Code != 0 {
		return left
	}
	return modelLeaveAll(stands, left.Value)
}

func modelDropStep(at, step sample) impl.ValueResult {
	if key, ok := step.tree.(string); ok {
		return modelDropKey(at, key)
	}
	list, ok := at.tree.([]any)
	if !ok && at.tree != nil {
		return failing(impl.ErrKind)
	}
	if !ok {
		return made(null())
	}
	var left []any
	for i, part := range list {
		if n := int64(i); step.model.num != n && step.model.num != n-int64(len(list)) {
			left = append(left, part)
		}
	}
	return made(cellsOf(append([]any{}, left...)))
}

// modelPaths are the paths in m as texts, each ahead of those in it.
func (m model) modelPaths(ahead []string, leaves bool) []string {
	var paths []string
	if !leaves || len(m.kids) == 0 {
		paths = []string{"[" + strings.Join(ahead, ",") + "]"}
	}
	for i, kid := range m.kids {
		step := strconv.Itoa(i)
		if m.kind == impl.KindObject {
			step = model{kind: impl.KindString, text: m.keys[i]}.json()
		}
		paths = append(paths, kid.modelPaths(append(slices.Clone(ahead), step), leaves)...)
	}
	return paths
}

func modelPathText(p sample) impl.TextResult {
	if code := modelPathFault(p); code != 0 {
		return impl.TextResult{Code: code}
	}
	text := "."
	for _, step := range modelSteps(p) {
		word := strconv.FormatInt(step.model.num, 10)
		if s, ok := step.tree.(string); ok {
			word = `"` + strings.NewReplacer(`\`, `\\`, `"`, `\"`).Replace(s) + `"`
		}
		text += "[" + word + "]"
	}
	return impl.TextResult{Text: text}
}

func modelUpdateAt(v, p sample, list []core, fuel int64) impl.ValueResult {
	if code := modelPathed(v, p); code != 0 {
		return failing(code)
	}
	if code := modelCoreFault(list); code != 0 {
		return failing(code)
	}
	if !fuelFits(fuel) {
		return failing(impl.ErrRange)
	}
	old := modelGetPath(v, p)
	if old.Code != 0 {
		return old
	}
	first := modelFirst(modelRun(twigOf(list), old.Value, fuel))
	if first.Code != 0 {
		return first
	}
	return modelSetPath(v, p, sampleOf(first.Value))
}

// pathsAs is an answer as a text: its paths, or "!" and its code.
func pathsAs(r impl.PathsResult) string {
	var words []string
	if r.Code != 0 {
		words = []string{code(r.Code)}
	}
	for _, p := range r.Paths {
		words = append(words, told(impl.ValueResult{Value: p}))
	}
	return strings.Join(words, " ")
}
