package tests

import (
	"maps"
	"slices"
	"strconv"
	"strings"

	"loop.example/g00166/impl"
)

// Edits are told here of the library's own lists and maps, from a list of what is
// still to be looked at.

type edit = impl.Edit

func setAt(p, x cells) edit { return edit{Op: impl.EditSet, Path: p, X: x} }
func dropAt(p cells) edit   { return edit{Op: impl.EditDrop, Path: p} }

func modelEditsFault(list []edit) int64 {
	if len(list) > 100 {
		return impl.ErrMany
	}
	for _, e := range list {
		path, x := sampleOf(e.Path), sampleOf(e.X)
		switch {
		case e.Op != 1 && e.Op != 2:
			return impl.ErrForm
		case modelPathFault(path) != 0:
			return modelPathFault(path)
		case e.Op == 1 && x.fault != 0:
			return x.fault
		case e.Op == 2 && (len(e.X) != 0 || len(modelSteps(path)) == 0):
			return impl.ErrForm
		}
	}
	return 0
}

// modelLook is a place to look at: what a has there and what b has, each as a list of
// one, or of none.
type modelLook struct {
	steps       []any
	left, right []any
}

func modelDiff(a, b sample) impl.EditsResult {
	if a.fault != 0 {
		return impl.EditsResult{Code: a.fault}
	}
	if b.fault != 0 {
		return impl.EditsResult{Code: b.fault}
	}
	var edits []edit
	looks := []modelLook{{left: []any{a.tree}, right: []any{b.tree}}}
	for len(looks) > 0 {
		look := looks[0]
		looks = looks[1:]
		path := pathOf(look.steps...)
		switch {
		case len(look.right) == 0:
			edits = append(edits, dropAt(path))
		case len(look.left) == 0:
			edits = append(edits, setAt(path, cellsOf(look.right[0])))
		case jsonOf(look.left[0]) == jsonOf(look.right[0]):
		default:
			inner, ok := modelLooksIn(look)
			if !ok {
				edits = append(edits, setAt(path, cellsOf(look.right[0])))
			}
			looks = append(inner, looks...)
		}
	}
	if len(edits) > 100 {
		return impl.EditsResult{Code: impl.ErrMany}
	}
	return impl.EditsResult{Edits: edits}
}

func jsonOf(tree any) string {
	m, _ := readModel(cellsOf(tree))
	return m.json()
}

// modelLooksIn are the places in two arrays or two objects.
func modelLooksIn(look modelLook) ([]modelLook, bool) {
	left, leftIs := look.left[0].(map[string]any)
	right, rightIs := look.right[0].(map[string]any)
	if leftIs && rightIs {
		return look.members(left, right), true
	}
	before, leftIs := look.left[0].([]any)
	behind, rightIs := look.right[0].([]any)
	if leftIs && rightIs {
		return look.elements(before, behind), true
	}
	return nil, false
}

func (look modelLook) at(step any, left, right []any) modelLook {
	return modelLook{append(slices.Clone(look.steps), step), left, right}
}

func (look modelLook) members(left, right map[string]any) []modelLook {
	all := maps.Clone(left)
	maps.Copy(all, right)
	var looks []modelLook
	for _, key := range slices.Sorted(maps.Keys(all)) {
		var mine, other []any
		if x, ok := left[key]; ok {
			mine = []any{x}
		}
		if x, ok := right[key]; ok {
			other = []any{x}
		}
		looks = append(looks, look.at(key, mine, other))
	}
	return looks
}

func (look modelLook) elements(left, right []any) []modelLook {
	var both, drops, sets []modelLook
	for n := range max(len(left), len(right)) {
		switch {
		case n >= len(right):
			drops = append(drops, look.at(n, left[n:n+1], nil))
		case n >= len(left):
			sets = append(sets, look.at(n, nil, right[n:n+1]))
		default:
			both = append(both, look.at(n, left[n:n+1], right[n:n+1]))
		}
	}
	slices.Reverse(drops)
	return slices.Concat(both, drops, sets)
}

func modelApply(v sample, list []edit) impl.ReadResult {
	if v.fault != 0 {
		return impl.ReadResult{Code: v.fault}
	}
	if code := modelEditsFault(list); code != 0 {
		return impl.ReadResult{Code: code}
	}
	for i, e := range list {
		var next impl.ValueResult
		if e.Op == impl.EditSet {
			next = modelSetPath(v, sampleOf(e.Path), sampleOf(e.X))
		} else {
			next = modelDropPath(v, sampleOf(e.Path))
		}
		if next.Code != 0 {
			return impl.ReadResult{Code: next.Code, At: int64(i)}
		}
		v = sampleOf(next.Value)
	}
	return impl.ReadResult{Value: v.v}
}

func modelEditLine(e edit) string {
	path, _ := readModel(e.Path)
	x, _ := readModel(e.X)
	if e.Op == impl.EditDrop {
		return "drop " + path.json()
	}
	return "set " + path.json() + " " + x.json()
}

func modelFormatEdits(list []edit) impl.TextResult {
	if code := modelEditsFault(list); code != 0 {
		return impl.TextResult{Code: code}
	}
	var text strings.Builder
	for _, e := range list {
		text.WriteString(modelEditLine(e) + "\n")
	}
	return impl.TextResult{Text: text.String()}
}

// modelWord reads a value that is told as it must be.
func modelWord(text string) (cells, bool) {
	read := modelDecode(text)
	return read.Value, read.Code == 0 && told(impl.ValueResult{Value: read.Value}) == text
}

// modelReadEdit tries every blank as the one ahead of X.
func modelReadEdit(line string) (edit, bool) {
	if rest, ok := strings.CutPrefix(line, "drop "); ok {
		path, ok := modelWord(rest)
		e := dropAt(path)
		return e, ok && modelEditsFault([]edit{e}) == 0
	}
	rest, ok := strings.CutPrefix(line, "set ")
	for at := 0; ok && at < len(rest); at++ {
		if rest[at] != ' ' {
			continue
		}
		path, pathFits := modelWord(rest[:at])
		x, xFits := modelWord(rest[at+1:])
		if e := setAt(path, x); pathFits && xFits && modelEditsFault([]edit{e}) == 0 {
			return e, true
		}
	}
	return edit{}, false
}

func modelParseEdits(text string) impl.EditsResult {
	if len(text) > 4000 {
		return impl.EditsResult{Code: impl.ErrMany}
	}
	var edits []edit
	for i, line := range strings.SplitAfter(text, "\n") {
		if line == "" {
			continue
		}
		e, ok := modelReadEdit(strings.TrimSuffix(line, "\n"))
		if !ok {
			return impl.EditsResult{Code: impl.ErrText, At: int64(i)}
		}
		edits = append(edits, e)
	}
	if len(edits) > 100 {
		return impl.EditsResult{Code: impl.ErrMany}
	}
	return impl.EditsResult{Edits: edits}
}

// modelMerged changes a copy of a, member by member.
func modelMerged(a, b any) any {
	patch, ok := b.(map[string]any)
	if !ok {
		return b
	}
	out := map[string]any{}
	if old, ok := a.(map[string]any); ok {
		maps.Copy(out, old)
	}
	for _, key := range slices.Sorted(maps.Keys(patch)) {
		if patch[key] == nil {
			delete(out, key)
		} else {
			out[key] = modelMerged(out[key], patch[key])
		}
	}
	return out
}

func modelMerge(a, b sample) impl.ValueResult {
	if a.fault != 0 {
		return failing(a.fault)
	}
	if b.fault != 0 {
		return failing(b.fault)
	}
	return made(cellsOf(modelMerged(a.tree, b.tree)))
}

func modelCountSame(a, b sample) impl.IntResult {
	if a.fault != 0 {
		return impl.IntResult{Code: a.fault}
	}
	if b.fault != 0 {
		return impl.IntResult{Code: b.fault}
	}
	return impl.IntResult{Value: modelSame(a.tree, b.tree)}
}

// modelSame goes into both at once: what b has not is null, and what it has otherwise
// has nothing that could be the same.
func modelSame(a, b any) int64 {
	count := int64(0)
	switch x := a.(type) {
	case []any:
		other, ok := b.([]any)
		for i := range x {
			var there any
			if i < len(other) {
				there = other[i]
			}
			if ok || b == nil {
				count += modelSame(x[i], there)
			}
		}
		if len(x) > 0 {
			return count
		}
	case map[string]any:
		other, ok := b.(map[string]any)
		for key := range x {
			if ok || b == nil {
				count += modelSame(x[key], other[key])
			}
		}
		if len(x) > 0 {
			return count
		}
	}
	if jsonOf(a) == jsonOf(b) {
		return 1
	}
	return 0
}

// editsAs is an answer as a text: its edits' lines, or "!", its code and its place.
func editsAs(r impl.EditsResult) string {
	var lines []string
	if r.Code != 0 || r.At != 0 {
		lines = []string{codeAt(r.Code, r.At)}
	}
	for _, e := range r.Edits {
		if modelEditsFault([]edit{e}) != 0 {
			return "an edit with a fault"
		}
		lines = append(lines, modelEditLine(e))
	}
	return strings.Join(lines, "; ")
}

func codeAt(number, at int64) string {
	return code(number) + " at " + strconv.FormatInt(at, 10)
}

// editedAs is an answer as a text: its value, or "!", its code and its place.
func editedAs(r impl.ReadResult) string {
	if r.Code != 0 || r.At != 0 {
		return codeAt(r.Code, r.At) + strings.Repeat(" and a value", min(1, len(r.Value)))
	}
	return told(impl.ValueResult{Value: r.Value})
}

func sameEdits(a, b []edit) bool {
	return slices.EqualFunc(a, b, func(x, y edit) bool {
		return x.Op == y.Op && slices.Equal(x.Path, y.Path) && slices.Equal(x.X, y.X)
	})
}
