package check

import (
	"slices"

	"swage/api"
	"swage/token"
	"swage/types"
)

// body is what is known of a function while its body is gone over.
type body struct {
	*program
	proc  *api.Proc
	names []map[string]int // of each open block with names, the outer ones first: of each name, which variable has it
}

// block goes over a block in which these names are known from its beginning on.
func (b *body) block(n api.Node, names map[string]int) api.Tree {
	b.names = append(b.names, names)
	t := b.statements(n)
	b.names = b.names[:len(b.names)-1]
	return t
}

// inner goes over a block within another one. One without names is passed by when a name is asked for, as there may be very many in one another.
func (b *body) inner(n api.Node) api.Tree {
	if !slices.ContainsFunc(n.Kids, isVar) {
		return b.statements(n)
	}
	return b.block(n, map[string]int{})
}

func isVar(n api.Node) bool { return n.Kind == api.NVar }

func (b *body) statements(n api.Node) api.Tree {
	t := api.Tree{Kind: n.Kind}
	for _, kid := range n.Kids {
		t.Kids = append(t.Kids, b.statement(kid))
	}
	return t
}

func (b *body) statement(n api.Node) api.Tree {
	t := api.Tree{Kind: n.Kind}
	switch n.Kind {
	case api.NVar:
		t.Num, t.Type = b.declare(n)
	case api.NSet:
		t.Kids = b.expressions(n.Kids)
		to, what := t.Kids[0], t.Kids[1]
		b.need(isPlace(to) && oneValue(to.Type, what.Type), api.ErrType, n.At)
	case api.NIf, api.NFor:
		t.Kids = []api.Tree{b.number(n.Kids[0])}
		for _, kid := range n.Kids[1:] {
			t.Kids = append(t.Kids, b.inner(kid))
		}
	case api.NReturn:
		t.Kids = b.expressions(n.Kids)
		b.need(types.Same(answered(t.Kids), b.proc.Result), api.ErrType, n.At)
	case api.NPrint:
		t.Kids = []api.Tree{b.number(n.Kids[0])}
	case api.NDo:
		t.Kids = []api.Tree{b.tree(n.Kids[0])}
	}
	return t
}

// declare answers the variable of a NVar, and its type.
func (b *body) declare(n api.Node) (int, api.Type) {
	names := b.names[len(b.names)-1]
	_, twice := names[n.Text]
	b.need(!twice, api.ErrTwice, n.At)
	t := b.typeOf(n.Kids[0])
	v := len(b.proc.Vars)
	b.need(v < api.MaxReg/4, api.ErrFull, n.At)
	names[n.Text] = v
	b.proc.Vars = append(b.proc.Vars, t)
	b.proc.Held = append(b.proc.Held, !types.Scalar(t))
	return v, t
}

// answered is the type of what a NReturn answers: of no Kind, if that is nothing, as of a function without a result.
func answered(kids []api.Tree) api.Type {
	if len(kids) == 0 {
		return api.Type{}
	}
	return kids[0].Type
}

// number goes over an expression that has to be an int.
func (b *body) number(n api.Node) api.Tree {
	t := b.expression(n)
	b.need(isInt(t.Type), api.ErrType, n.At)
	return t
}

func (b *body) expressions(l []api.Node) []api.Tree {
	var trees []api.Tree
	for _, n := range l {
		trees = append(trees, b.expression(n))
	}
	return trees
}

// expression goes over what has to come to something: a call without a result does not.
func (b *body) expression(n api.Node) api.Tree {
	t := b.tree(n)
	b.need(t.Type.Kind != 0, api.ErrType, n.At)
	return t
}

// tree goes over an expression, its Kids first. Of one behind an error nothing is told.
func (b *body) tree(n api.Node) api.Tree {
	if n.Kind == api.NNew {
		t := b.typeOf(n.Kids[0])
		return api.Tree{Kind: n.Kind, Num: types.Size(t), Type: pointer(t)}
	}
	kids := b.expressions(n.Kids)
	if b.err != api.OK {
		return api.Tree{}
	}
	num, t, err := b.comesTo(n, kids)
	b.need(err == api.OK, err, n.At)
	return api.Tree{Kind: n.Kind, Num: num, Type: t, Kids: kids}
}

// comesTo answers the number and the type of an expression, whose Kids fit.
func (b *body) comesTo(n api.Node, kids []api.Tree) (int, api.Type, api.Errno) {
	switch n.Kind {
	case api.NNumber:
		num, is := token.Number(n.Text)
		return num, integer(), fit(is)
	case api.NUse:
		return b.variable(n.Text)
	case api.NBin:
		return binary(n.Text, kids[0].Type, kids[1].Type)
	case api.NNeg:
		return 0, integer(), fit(isInt(kids[0].Type))
	case api.NAt:
		return pointed(kids[0].Type)
	case api.NAddr:
		b.hold(kids[0])
		return 0, pointer(kids[0].Type), fit(isPlace(kids[0]))
	case api.NIndex:
		return indexed(kids[0].Type, kids[1].Type)
	case api.NField:
		return field(kids[0].Type, n.Text)
	case api.NCall:
		return b.called(n.Text, kids)
	}
	return 0, integer(), api.OK // NRead
}

// variable answers which variable a name is: the innermost block that knows it tells.
func (b *body) variable(name string) (int, api.Type, api.Errno) {
	for _, names := range slices.Backward(b.names) {
		if v, is := names[name]; is {
			return v, b.proc.Vars[v], api.OK
		}
	}
	return 0, api.Type{}, api.ErrNone
}

// hold lets the variable be held that t is. One of which t is a part is held already, as its type is no scalar.
func (b *body) hold(t api.Tree) {
	if t.Kind == api.NUse {
		b.proc.Held[t.Num] = true
	}
}

func (b *body) called(name string, args []api.Tree) (int, api.Type, api.Errno) {
	f, is := b.funcs[name]
	if !is {
		return 0, api.Type{}, api.ErrNone
	}
	x := b.procs[f]
	fits := slices.EqualFunc(args, x.Vars[:x.Params], func(arg api.Tree, t api.Type) bool {
		return types.Same(arg.Type, t)
	})
	return f, x.Result, fit(fits)
}

func binary(sign string, x, y api.Type) (int, api.Type, api.Errno) {
	op, fits := Op(sign)
	switch op {
	case api.Eq, api.Ne:
		fits = oneValue(x, y)
	default:
		fits = fits && isInt(x) && isInt(y)
	}
	return op, integer(), fit(fits)
}

// pointed answers what a pointer points to.
func pointed(t api.Type) (int, api.Type, api.Errno) {
	if t.Kind != api.TyPointer {
		return 0, api.Type{}, api.ErrType
	}
	return 0, t.Kids[0], api.OK
}

// indexed answers how many cells a part of an array takes, and its type. What is of an array is a place.
func indexed(t, index api.Type) (int, api.Type, api.Errno) {
	if t.Kind != api.TyArray || !isInt(index) {
		return 0, api.Type{}, api.ErrType
	}
	return types.Size(t.Kids[0]), t.Kids[0], api.OK
}

// field answers how many cells behind the beginning of a tuple a part lies, and its type. What is of a tuple is a place.
func field(t api.Type, which string) (int, api.Type, api.Errno) {
	k, is := token.Number(which)
	if !is || t.Kind != api.TyTuple || k >= len(t.Kids) {
		return 0, api.Type{}, api.ErrType
	}
	cells, _ := types.Offset(t, k)
	return cells, t.Kids[k], api.OK
}

func isPlace(t api.Tree) bool {
	switch t.Kind {
	case api.NUse, api.NAt, api.NIndex, api.NField:
		return true
	}
	return false
}

func isInt(t api.Type) bool { return t.Kind == api.TyInt }

// oneValue tells whether both are of one type, a scalar's.
func oneValue(x, y api.Type) bool { return types.Scalar(x) && types.Same(x, y) }

func integer() api.Type { return api.Type{Kind: api.TyInt} }

// pointer answers a pointer to t, not to a copy: many of them are made ahead of an error that is told alone.
func pointer(t api.Type) api.Type { return api.Type{Kind: api.TyPointer, Kids: []api.Type{t}} }

// fit is the error of types that do not fit, if they do not.
func fit(fits bool) api.Errno {
	if fits {
		return api.OK
	}
	return api.ErrType
}
