package names

import (
	"strconv"
	"strings"

	"simproof/api"
)

// layout says what is written of the events of a kind, besides their nodes. The zero layout is that of no kind.
type layout struct {
	word     string // comes first
	arg, msg bool
}

// layoutOf returns the layout of the events of a kind.
func layoutOf(kind int) layout {
	switch kind {
	case api.EvStart:
		return layout{word: "start", arg: true}
	case api.EvInvoke:
		return layout{word: "invoke", arg: true}
	case api.EvDeliver:
		return layout{word: "deliver", msg: true}
	case api.EvTimer:
		return layout{word: "timer", arg: true}
	case api.EvDrop:
		return layout{word: "drop", msg: true}
	case api.EvDup:
		return layout{word: "dup", msg: true}
	case api.EvCrash:
		return layout{word: "crash"}
	}
	return layout{}
}

// written returns an event without the fields that are not written.
func (l layout) written(e api.Event) api.Event {
	if !l.arg {
		e.Arg = 0
	}
	if !l.msg {
		e.Msg = api.Msg{}
	}
	return e
}

// fits reports whether an event that has this layout is well-formed.
func (l layout) fits(e api.Event) bool {
	return l.word != "" && e == l.written(e) && isNode(e.Node) && isUpTo(e.Arg, api.MaxValue) && isMsg(e.Msg)
}

// questionWord returns the first word of the questions of a kind, or nothing if there is no such kind.
func questionWord(kind int) string {
	switch kind {
	case api.QDraw:
		return "draw"
	case api.QTick:
		return "tick"
	case api.QKeep:
		return "keep"
	}
	return ""
}

// isUpTo reports whether a number is from 0 to another one.
func isUpTo(n, most int) bool { return n >= 0 && n <= most }

// isNode reports whether a node can be written.
func isNode(n int) bool { return isUpTo(n, api.MaxNodes-1) }

// isCause reports whether a cause can be written where handlers up to a last one can.
func isCause(c api.Cause, last int) bool {
	return isNode(c.Node) && isUpTo(c.Handler, last) && isUpTo(c.Count, api.MaxValue)
}

// isMsg reports whether a message can be written.
func isMsg(m api.Msg) bool {
	return isCause(m.Cause, api.Handlers-1) && isUpTo(m.Index, api.MaxValue) && isUpTo(m.Copy, api.MaxValue)
}

// words returns the text that consists of some words.
func words(list ...string) string { return strings.Join(list, " ") }

// dotted returns the word that consists of some numbers.
func dotted(numbers ...int) string {
	var texts []string
	for _, n := range numbers {
		texts = append(texts, strconv.Itoa(n))
	}
	return strings.Join(texts, ".")
}

// causeText returns the text of a cause.
func causeText(c api.Cause) string { return dotted(c.Node, c.Handler, c.Count) }

// msgText returns the text of a message.
func msgText(m api.Msg) string { return causeText(m.Cause) + "." + dotted(m.Index, m.Copy) }
