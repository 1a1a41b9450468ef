package library_test

import (
	"encoding/json"
	"fmt"
	"reflect"
	"slices"
	"strings"
	"testing"

	"skerry/api"
	"skerry/library"
	"skerry/syntax"
)

// built builds a text, with the interfaces of units.
func built(t *testing.T, text string, used ...api.Unit) api.Unit {
	t.Helper()
	u, trouble, e := library.Build(text, interfaces(used...))
	if e != api.OK {
		t.Fatalf("Build of %q = %v, %v", text, trouble, e)
	}
	return u
}

// interfaces returns those of units.
func interfaces(l ...api.Unit) []api.Interface {
	var out []api.Interface
	for _, u := range l {
		out = append(out, u.Interface)
	}
	return out
}

// exactly reports whether values are equal, where nil lists and empty ones are the same.
func exactly(a, b any) bool { return fmt.Sprintf("%+v", a) == fmt.Sprintf("%+v", b) }

// isZero reports whether a value is zero, but for empty lists.
func isZero(x any) bool { return exactly(x, reflect.Zero(reflect.TypeOf(x)).Interface()) }

// clone returns a copy of a value in new memory.
func clone[T any](x T) T {
	text, err := json.Marshal(x)
	if err != nil {
		panic(err)
	}
	var y T
	if err := json.Unmarshal(text, &y); err != nil {
		panic(err)
	}
	return y
}

// macroNames returns the names of macros, statement macros with a star.
func macroNames(l []api.Macro) string {
	var out []string
	for _, m := range l {
		if m.Statement {
			m.Name += "*"
		}
		out = append(out, m.Name)
	}
	return strings.Join(out, " ")
}

// faceNames returns what the names of a face denote.
func faceNames(f api.Face) string {
	var out []string
	for _, x := range f.Names {
		out = append(out, x.Name+"="+x.Full)
	}
	return strings.Join(out, " ")
}

func libs(l []api.Interface) string {
	var out []string
	for _, i := range l {
		out = append(out, i.Face.Lib)
	}
	return strings.Join(out, " ")
}

// printed returns the text of a source, or its error.
func printed(s api.Source) string {
	text, e := syntax.Print(s)
	if e != api.OK {
		return fmt.Sprint("error ", int(e))
	}
	return text
}

// printedExpr returns the text of an expression, or its error.
func printedExpr(x api.Expr) string {
	text, e := syntax.PrintExpr(x)
	if e != api.OK {
		return fmt.Sprint("error ", int(e))
	}
	return text
}

// block is the memory of a slice.
type block struct {
	from, to uintptr
	what     string
}

// blocks returns the memory of all slices in a value.
func blocks(what string, x reflect.Value) []block {
	var l []block
	switch x.Kind() {
	case reflect.Slice:
		if size := uintptr(x.Cap()) * x.Type().Elem().Size(); size > 0 {
			l = append(l, block{x.Pointer(), x.Pointer() + size, what})
		}
		fallthrough
	case reflect.Array:
		for i := range x.Len() {
			l = append(l, blocks(fmt.Sprintf("%s[%d]", what, i), x.Index(i))...)
		}
	case reflect.Struct:
		for i := range x.NumField() {
			l = append(l, blocks(what+"."+x.Type().Field(i).Name, x.Field(i))...)
		}
	}
	return l
}

// shared returns two slices that share memory, one of which is in a result; an empty string if there are none.
func shared(result any, args ...any) string {
	l := blocks("result", reflect.ValueOf(result))
	own := len(l)
	for i, a := range args {
		l = append(l, blocks(fmt.Sprint("arg", i), reflect.ValueOf(a))...)
	}
	order := make([]int, len(l))
	for i := range order {
		order[i] = i
	}
	slices.SortFunc(order, func(a, b int) int {
		if l[a].from != l[b].from {
			return int(int64(l[a].from) - int64(l[b].from))
		}
		return a - b
	})
	for i := 1; i < len(order); i++ {
		a, b := order[i-1], order[i]
		if l[b].from < l[a].to && (a < own || b < own) {
			return l[a].what + " and " + l[b].what
		}
	}
	return ""
}

// TestShared: shared finds what it is for.
func TestShared(t *testing.T) {
	l := []int{1, 2, 3}
	if s := shared(api.Library{Uses: []string{"a"}}, []string{"a"}, l, l); s != "" {
		t.Errorf("shared = %s", s)
	}
	for _, x := range [][]any{{l[:1], l[1:]}, {l[2:], [][]int{nil, l}}, {[][]int{l, l[:0]}}} {
		if shared(x[0], x[1:]...) == "" {
			t.Errorf("shared of %v finds nothing", x)
		}
	}
}
