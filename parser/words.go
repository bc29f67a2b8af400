package parser

import "simproof/lexer"

// isName reports whether a token can be the name of a variable: every word that is not reserved.
func isName(t lexer.Token) bool {
	return t.Kind == lexer.Word && !isKeyword(t.Text) && !isBuiltIn(t.Text)
}

// isKeyword reports whether a word is reserved and not the name of a built-in value.
func isKeyword(word string) bool {
	switch word {
	case "durable", "volatile", "on", "start", "request", "timer", "message",
		"if", "else", "while", "send", "cancel", "sync", "reply", "fail", "stop",
		"true", "false", "draw":
		return true
	}
	return false
}

// isBuiltIn reports whether a word is the name of a built-in value.
func isBuiltIn(word string) bool {
	switch word {
	case "self", "nodes", "now", "from", "a", "b", "id", "op", "key":
		return true
	}
	return false
}
