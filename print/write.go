package print

import (
	"strings"

	"winnow/api"
	"winnow/word"
)

// written is the text of a list that is a tree, however long. The nodes are taken from the list one by one, as the text grows.
func written(ns []api.Node) string {
	var text strings.Builder
	say := func(parts ...string) {
		for _, part := range parts {
			text.WriteString(part)
		}
	}
	take := func() api.Node {
		n := ns[0]
		ns = ns[1:]
		return n
	}
	more := func(within api.Node) bool { return len(ns) > 0 && ns[0].Depth > within.Depth }

	line := lines(take, more, say)
	for len(ns) > 0 {
		line()
	}
	return text.String()
}

// lines makes what writes the next declaration or statement, with all that it holds.
func lines(take func() api.Node, more func(within api.Node) bool, say func(parts ...string)) func() {
	expression := expressions(take, say)
	value := func() { expression(loosest) }
	var line func()
	blocks := func(n api.Node) {
		opening := " {\n"
		for more(n) {
			say(opening)
			for block := take(); more(block); {
				line()
			}
			say(margin(n), "}")
			opening = " else {\n"
		}
		say("\n")
	}
	line = func() {
		n := take()
		say(margin(n))
		switch n.Kind {
		case api.KVar:
			say("var ", n.Name)
		case api.KArray:
			say("array ", n.Name, "[", word.Print(n.Num), "]")
		case api.KAssign:
			say(n.Name, " := ")
			value()
		case api.KStore:
			say(n.Name, "[")
			value()
			say("] := ")
			value()
		case api.KInput:
			say("input ", n.Name)
		case api.KAssert:
			say("assert ")
			value()
		case api.KSkip:
			say("skip")
		case api.KIf:
			say("if ")
			value()
			blocks(n)
			return
		case api.KWhile:
			say("while ")
			value()
			blocks(n)
			return
		}
		say(";\n")
	}
	return line
}

// margin is the blanks ahead of a statement's lines: two for each block around it, as each block puts its statements two deeper than the one that holds it.
func margin(n api.Node) string { return strings.Repeat(" ", n.Depth-1) }

// expressions makes what writes the next expression at a place that wants a level.
func expressions(take func() api.Node, say func(parts ...string)) func(wants int) {
	var expression func(wants int)
	bare := func(n api.Node) {
		o := operators[n.Op]
		switch n.Kind {
		case api.KNum:
			say(word.Print(n.Num))
		case api.KBool:
			say(truth(n.Num))
		case api.KRead:
			say(n.Name)
		case api.KLoad:
			say(n.Name, "[")
			expression(loosest)
			say("]")
		case api.KUnary:
			say(o.sign)
			expression(unary)
		case api.KBinary:
			expression(leftWants(o.level))
			say(" ", o.sign, " ")
			expression(o.level + 1)
		}
	}
	expression = func(wants int) {
		n := take()
		if operators[n.Op].level >= wants {
			bare(n)
			return
		}
		say("(")
		bare(n)
		say(")")
	}
	return expression
}

func truth(v int64) string {
	if v == 1 {
		return "true"
	}
	return "false"
}
