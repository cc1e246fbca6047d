package check

import (
	"slices"

	"swage/api"
)

// isProgram tells whether n is a tree as Parse makes them, whatever Text and At are.
func isProgram(n api.Node) bool { return n.Kind == api.NProgram && all(n.Kids, isFunc) }

// all tells whether each node is such.
func all(l []api.Node, such func(api.Node) bool) bool {
	return !slices.ContainsFunc(l, func(n api.Node) bool { return !such(n) })
}

// row tells whether there is one node for each of these, which is such.
func row(l []api.Node, such ...func(api.Node) bool) bool {
	return slices.EqualFunc(l, such, func(n api.Node, such func(api.Node) bool) bool { return such(n) })
}

func isFunc(n api.Node) bool {
	if n.Kind != api.NFunc || len(n.Kids) < 2 {
		return false
	}
	params, result, block := parts(n)
	return all(params, isParam) && isResult(result) && isBlock(block)
}

func isParam(n api.Node) bool { return n.Kind == api.NParam && row(n.Kids, isType) }

func isResult(n api.Node) bool { return n.Kind == api.NVoid && row(n.Kids) || isType(n) }

func isType(n api.Node) bool {
	switch n.Kind {
	case api.NInt:
		return row(n.Kids)
	case api.NPointer, api.NArray:
		return row(n.Kids, isType)
	case api.NTuple:
		return len(n.Kids) > 0 && all(n.Kids, isType)
	}
	return false
}

func isBlock(n api.Node) bool { return n.Kind == api.NBlock && all(n.Kids, isStatement) }

func isStatement(n api.Node) bool {
	many := len(n.Kids)
	switch n.Kind {
	case api.NVar:
		return row(n.Kids, isType)
	case api.NSet:
		return row(n.Kids, isExpression, isExpression)
	case api.NIf:
		return (many == 2 || many == 3) && isExpression(n.Kids[0]) && all(n.Kids[1:], isBlock)
	case api.NFor:
		return row(n.Kids, isExpression, isBlock)
	case api.NReturn:
		return many < 2 && all(n.Kids, isExpression)
	case api.NPrint:
		return row(n.Kids, isExpression)
	case api.NDo:
		return row(n.Kids, isCall)
	}
	return false
}

func isCall(n api.Node) bool { return n.Kind == api.NCall && isExpression(n) }

func isExpression(n api.Node) bool {
	switch n.Kind {
	case api.NNumber, api.NUse, api.NRead:
		return row(n.Kids)
	case api.NNeg, api.NAt, api.NAddr, api.NField:
		return row(n.Kids, isExpression)
	case api.NBin, api.NIndex:
		return row(n.Kids, isExpression, isExpression)
	case api.NCall:
		return all(n.Kids, isExpression)
	case api.NNew:
		return row(n.Kids, isType)
	}
	return false
}
