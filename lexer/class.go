package lexer

// class says what can begin with a byte.
type class uint8

const (
	nothing     class = iota
	blank             // white space of one byte
	comment           // white space up to the end of the line
	letter            // a word
	digit             // a number
	single            // a symbol of one byte
	beforeEqual       // a symbol of one byte, and one of two bytes if = follows
	doubled           // a symbol only if the same byte follows
)

// byteClasses returns the class of each byte.
func byteClasses() [256]class {
	var table [256]class
	mark := func(members string, c class) {
		for i := range len(members) {
			table[members[i]] = c
		}
	}
	mark(" \t\n", blank)
	mark("#", comment)
	mark("abcdefghijklmnopqrstuvwxyz", letter)
	mark("0123456789", digit)
	mark("{}[]();,+-*/", single)
	mark("<>=!", beforeEqual)
	mark("|&", doubled)
	return table
}
