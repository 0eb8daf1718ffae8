package tests

import (
	"reflect"
	"testing"
)

// scribble writes over every list of these answers, up to its capacity.
func scribble(answers []any) {
	for _, answer := range answers {
		scribbleLists(reflect.ValueOf(answer))
	}
}

func scribbleLists(v reflect.Value) {
	switch v.Kind() {
	case reflect.Struct:
		for i := range v.NumField() {
			scribbleLists(v.Field(i))
		}
	case reflect.Slice:
		all := v.Slice(0, v.Cap())
		for i := range all.Len() {
			spoil(all.Index(i))
		}
	}
}

// spoil leaves nothing of an element as it was.
func spoil(v reflect.Value) {
	switch v.Kind() {
	case reflect.Int64:
		v.SetInt(-77)
	case reflect.String:
		v.SetString("\n")
	case reflect.Bool:
		v.SetBool(!v.Bool())
	case reflect.Struct:
		for i := range v.NumField() {
			spoil(v.Field(i))
		}
	case reflect.Slice:
		scribbleLists(v)
		v.SetZero()
	}
}

// span is the memory of one list, from its first byte to behind its capacity.
type span struct{ from, to uintptr }

func spansOf(v reflect.Value) []span {
	var spans []span
	switch v.Kind() {
	case reflect.Struct:
		for i := range v.NumField() {
			spans = append(spans, spansOf(v.Field(i))...)
		}
	case reflect.Slice:
		if v.Cap() > 0 {
			from := v.Pointer()
			spans = append(spans, span{from, from + uintptr(v.Cap())*v.Type().Elem().Size()})
		}
		for i := range v.Len() {
			spans = append(spans, spansOf(v.Index(i))...)
		}
	}
	return spans
}

// checkApart fails where two lists of one answer share memory, or one of an
// answer and one of an argument.
func checkApart(t *testing.T, answers []any, arguments ...any) {
	t.Helper()
	var given []span
	for _, argument := range arguments {
		given = append(given, spansOf(reflect.ValueOf(argument))...)
	}
	for n, answer := range answers {
		own := spansOf(reflect.ValueOf(answer))
		for i, a := range own {
			for _, b := range append(own[:i:i], given...) {
				if a.from < b.to && b.from < a.to {
					t.Errorf("answer %d shares memory: %v", n, answer)
				}
			}
		}
	}
}
