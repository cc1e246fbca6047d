package parse

import (
	"slices"
	"strings"

	"swage/api"
)

const strange = "?" // the text of a node that is none

// Text answers a tree as a text.
func Text(n api.Node) string {
	var w writer
	w.node(n)
	return w.text.String()
}

// writer writes a text, with a blank between any two tokens.
type writer struct {
	text  strings.Builder
	blank bool // whether what comes next takes a blank ahead of it
}

// put writes tokens. A text that is empty is none, and takes no blank.
func (w *writer) put(tokens ...string) *writer {
	for _, s := range tokens {
		if s == "" {
			continue
		}
		if w.blank {
			w.text.WriteByte(' ')
		}
		w.text.WriteString(s)
		w.blank = true
	}
	return w
}

func (w *writer) node(n api.Node) *writer {
	fewest, is := leastKids(n.Kind)
	switch {
	case !is || len(n.Kids) < fewest:
		w.put(strange)
	case n.Kind <= api.NTuple:
		w.declared(n)
	case n.Kind <= api.NDo:
		w.statement(n)
	default:
		w.expression(n)
	}
	return w
}

// leastKids tells how many Kids a node of a Kind has at least, and whether there is such a Kind.
func leastKids(kind int) (int, bool) {
	switch kind {
	case api.NFunc, api.NSet, api.NIf, api.NFor, api.NBin, api.NIndex:
		return 2, true
	case api.NParam, api.NPointer, api.NArray, api.NTuple, api.NVar, api.NPrint, api.NDo,
		api.NNeg, api.NAt, api.NAddr, api.NField, api.NNew:
		return 1, true
	}
	return 0, api.NProgram <= kind && kind <= api.NRead
}

// nodes writes what stands one behind the other.
func (w *writer) nodes(l []api.Node) *writer {
	for _, n := range l {
		w.node(n)
	}
	return w
}

// list writes what stands with "," between.
func (w *writer) list(l []api.Node) *writer {
	for i, n := range l {
		if i > 0 {
			w.put(",")
		}
		w.node(n)
	}
	return w
}

// lines writes each node with a line feed behind it.
// A line feed takes no blank, nor does what follows it in the same program.
func (w *writer) lines(l []api.Node) {
	for _, n := range l {
		before := w.text.Len()
		w.node(n)
		if w.text.Len() > before {
			w.blank = false
		}
		w.put("\n")
		w.blank = false
	}
	if len(l) > 0 {
		w.blank = true
	}
}

func (w *writer) declared(n api.Node) {
	k := n.Kids
	switch n.Kind {
	case api.NProgram:
		w.lines(k)
	case api.NFunc:
		many := len(k) - 2 // behind its parameters come its type and its block
		w.put("func", n.Text, "(").list(k[:many]).put(")").nodes(k[many:])
	case api.NParam:
		w.put(n.Text).node(k[0])
	case api.NInt:
		w.put("int")
	case api.NPointer:
		w.put("*").node(k[0])
	case api.NArray:
		w.put("[", n.Text, "]").node(k[0])
	case api.NTuple:
		w.put("(").list(k).put(")")
	}
}

func (w *writer) statement(n api.Node) {
	k := n.Kids
	switch n.Kind {
	case api.NBlock:
		w.put("{").nodes(k).put("}")
	case api.NVar:
		w.put("var", n.Text).node(k[0]).put(";")
	case api.NSet:
		w.node(k[0]).put("=").node(k[1]).put(";")
	case api.NIf:
		w.put("if").nodes(k[:2])
		if len(k) > 2 {
			w.put("else").node(k[2])
		}
	case api.NFor:
		w.put("for").nodes(k[:2])
	case api.NReturn:
		w.put("return").nodes(k[:min(1, len(k))]).put(";")
	case api.NPrint:
		w.put("print").node(k[0]).put(";")
	case api.NDo:
		w.node(k[0]).put(";")
	}
}

func (w *writer) expression(n api.Node) {
	k := n.Kids
	switch n.Kind {
	case api.NNumber, api.NUse:
		w.put(n.Text)
	case api.NBin:
		w.put("(").node(k[0]).put(n.Text).node(k[1]).put(")")
	case api.NNeg:
		w.put("(", "-").node(k[0]).put(")")
	case api.NAt:
		w.put("(", "*").node(k[0]).put(")")
	case api.NAddr:
		w.put("(", "&").node(k[0]).put(")")
	case api.NIndex:
		w.node(k[0]).put("[").node(k[1]).put("]")
	case api.NField:
		w.node(k[0]).put(".", n.Text)
	case api.NCall:
		w.put(n.Text, "(").list(k).put(")")
	case api.NNew:
		w.put("new", "(").node(k[0]).put(")")
	case api.NRead:
		w.put("read")
	}
}

// Same tells whether two trees are alike, wherever they stand.
func Same(a, b api.Node) bool {
	return a.Kind == b.Kind && a.Text == b.Text && slices.EqualFunc(a.Kids, b.Kids, Same)
}

// Size answers how many nodes a tree has.
func Size(n api.Node) int {
	many := 0
	each(n, func(api.Node) { many++ })
	return many
}

// each goes over a node and all that is in it.
func each(n api.Node, visit func(api.Node)) {
	visit(n)
	for _, kid := range n.Kids {
		each(kid, visit)
	}
}
