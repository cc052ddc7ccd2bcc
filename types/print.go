package types

import (
	"strconv"
	"strings"

	"fugue/api"
)

// The places at which a type may stand in print: what is in brackets at one is so at those behind it, too.
const (
	whole  = iota // alone, or as a TAll's body
	right         // on a function's right side
	left          // on a function's left side, or as an application's first
	second        // as an application's second
)

// Print is a type in print.
func Print(t api.Type) string {
	var out strings.Builder
	write(&out, t, whole)
	return out.String()
}

// write adds a type's print, as it is at a place, to out.
func write(out *strings.Builder, t api.Type, place int) {
	if place > bare(t) {
		out.WriteString("(")
		write(out, t, whole)
		out.WriteString(")")
		return
	}
	from, to, function := sides(t)
	switch {
	case t.Form == api.TAll:
		out.WriteString("forall " + t.Name + ". ")
		for _, body := range t.Args {
			write(out, body, whole)
		}
	case function:
		write(out, from, left)
		out.WriteString(" " + Arrow + " ")
		write(out, to, right)
	case applied(t):
		write(out, t.Args[0], left)
		out.WriteString(" ")
		write(out, t.Args[1], second)
	case arrow(t):
		out.WriteString("(" + Arrow + ")")
	case t.Form == api.TMeta:
		out.WriteString("?" + strconv.Itoa(t.N))
	default:
		out.WriteString(t.Name)
	}
}

// bare is the last place at which a type stands without brackets.
func bare(t api.Type) int {
	_, _, function := sides(t)
	switch {
	case t.Form == api.TAll:
		return whole
	case function:
		return right
	case applied(t):
		return left
	}
	return second
}
