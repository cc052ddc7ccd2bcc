package scope_test

import (
	"slices"
	"strings"
	"testing"

	"fugue/api"
	"fugue/read"
	"fugue/scope"
)

func program(t *testing.T, src string) api.Program {
	t.Helper()
	p, at := read.Program(src)
	if at != (api.At{}) {
		t.Fatal(src, at)
	}
	return p
}

func exp(t *testing.T, src string) api.Exp {
	t.Helper()
	e, at := read.Exp(src)
	if at != (api.At{}) {
		t.Fatal(src, at)
	}
	return e
}

// P8.1: what is free in an expression of each form, in its row.
func TestFree(t *testing.T) {
	for src, want := range map[string]string{
		"x": "x", "1": "", "A": "", "add": "add", "A x B": "x",
		"f x y":                                       "f x y",
		"f (g x) (h y)":                               "f g x h y",
		"x y x y z":                                   "x y z",
		"(\\ x -> x) x":                               "x",
		"x (\\ x -> x)":                               "x",
		"\\ x y -> z y x w":                           "z w",
		"\\ x -> \\ x -> x":                           "",
		"\\ x -> (\\ x -> x) x":                       "",
		"\\ x -> (\\ y -> y x) y":                     "y",
		"\\ x x -> x":                                 "",
		"(\\ x x -> x) x":                             "x",
		"let { } in x":                                "x",
		"let { x = 1 } in x y":                        "y",
		"let { x = x y } in z":                        "y z",
		"let { x = y ; y = z } in w x":                "z w",
		"let { x = c ; y = b } in a":                  "c b a",
		"let { f x = x g y ; g = f } in x":            "y x",
		"let { x = 1 ; x = x } in x":                  "",
		"f (let { x = x } in x) x":                    "f x",
		"let { x = let { y = x } in y } in y":         "y",
		"case x of { _ -> y ; 1 -> z }":               "x y z",
		"case x of { x -> x }":                        "x",
		"case x of { x -> y ; y -> x }":               "x y",
		"case a of { C x (D y) -> x y b ; z -> z x }": "a b x",
		"case \\ y -> y of { y -> y z }":              "z",
		"case f x of { C -> x ; D -> f }":             "f x",
		"case case a of { b -> b } of { a -> a b }":   "a b",
		"x : Int":                      "x",
		"(x : a) (y : E b => b)":       "x y",
		"\\ x -> (f x : x)":            "f",
		"let { f : x ; f = g } in f x": "g x",
	} {
		if got := strings.Join(scope.Free(exp(t, src)), " "); got != want {
			t.Errorf("%s: %s, not %s", src, got, want)
		}
	}
}

// P8.1: what a pattern gives, as often as it gives it; the prims.
func TestVarsAndPrims(t *testing.T) {
	for src, want := range map[string]string{
		"x": "x", "_": "", "1": "", "C": "", "C x": "x", "C x y": "x y", "C y x": "y x",
		"C 1 _ D x": "x", "C x (D _ y) 1 x": "x y x", "C (D (E a) b) (c)": "a b c", "C (C x) (C x)": "x x",
	} {
		p, at := read.Pat(src)
		if at != (api.At{}) {
			t.Fatal(src, at)
		}
		if got := strings.Join(scope.Vars(p), " "); got != want {
			t.Errorf("%s: %s, not %s", src, got, want)
		}
	}
	if got := strings.Join(scope.Prims(), " "); got != "add sub mul div eq lt" {
		t.Error(got)
	}
}

// P8.3: who uses whom.
func TestGroups(t *testing.T) {
	for src, want := range map[string][][]int{
		"":                                    nil,
		"f = 1":                               {{0}},
		"f = f":                               {{0}},
		"f = g ; g = f":                       {{0, 1}},
		"f = g ; g : a ; g = f":               {{0}, {1}},
		"f : a ; f = g ; g = f":               {{1}, {0}},
		"f : a ; f = g ; g : a ; g = f":       {{0}, {1}},
		"f = g ; g = h ; h = f":               {{0, 1, 2}},
		"f = g ; g : a ; g = h ; h = f":       {{0}, {2}, {1}},
		"f = g ; g = 1":                       {{1}, {0}},
		"f g = g ; g = f":                     {{0}, {1}},
		"f = let { g = 1 } in g ; g = f":      {{0}, {1}},
		"f = let { h = g } in h ; g = f":      {{0, 1}},
		"f = case 1 of { g -> g } ; g = f":    {{0}, {1}},
		"f = case g of { g -> 1 } ; g = f":    {{0, 1}},
		"f = (g : a) ; g = f":                 {{0, 1}},
		"h = add f i ; f = g ; g = f ; i = 1": {{1, 2}, {3}, {0}},
		// The first of a name counts: whether it has a signature, too, which is the first one's always.
		"f = 1 ; f = g ; g = f":         {{0}, {2}, {1}},
		"f = g ; f = g ; g = f":         {{0, 2}, {1}},
		"f = 1 ; g = f ; f = g":         {{0}, {1}, {2}},
		"f = 1 ; f = f":                 {{0}, {1}},
		"f : a ; f = g ; f = g ; g = f": {{2}, {0}, {1}},
	} {
		got := scope.Groups(program(t, src).Binds)
		if !slices.EqualFunc(got, want, slices.Equal[[]int]) {
			t.Errorf("%s: %v, not %v", src, got, want)
		}
	}
	// Of a second one of a name neither what it uses nor its signature counts.
	l := program(t, "f = 1 ; g = f ; f = g").Binds
	l[2].Has = true
	if got := scope.Groups(l); !slices.EqualFunc(got, [][]int{{0}, {1}, {2}}, slices.Equal[[]int]) {
		t.Error(got)
	}
	l = program(t, "f = g ; g = f ; f = 1").Binds
	l[0].Has = true
	if got := scope.Groups(l); !slices.EqualFunc(got, [][]int{{1}, {0}, {2}}, slices.Equal[[]int]) {
		t.Error(got)
	}
}

// P8.3: of binds that no program has, of no name.
func TestGroupsOfNoName(t *testing.T) {
	l := []api.Bind{{Body: exp(t, "x y")}, {Body: exp(t, "y"), Has: true}, {Name: "y", Body: exp(t, "1")}}
	if got := scope.Groups(l); !slices.EqualFunc(got, [][]int{{2}, {0}, {1}}, slices.Equal[[]int]) {
		t.Error(got)
	}
	if got := scope.Groups(nil); len(got) != 0 {
		t.Error(got)
	}
}
