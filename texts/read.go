package texts

import (
	"choice/api"
	"choice/tables"
)

// item is what later items need to know of one that was read.
type item struct {
	variable int
	table    uint64
}

// reader goes through a text once, from its first byte to its last.
type reader struct {
	text  string
	at    int // where the next byte is
	vars  int
	items []item
}

// Read is the table of the function that a text says among so many variables,
// and whether it says one.
func Read(text string, vars int) (uint64, bool) {
	if len(text) > api.MaxText {
		return 0, false
	}
	switch text {
	case "0":
		return 0, true
	case "1":
		return tables.Full(vars), true
	}
	r := reader{text: text, vars: vars}
	for r.at < len(r.text) {
		if !r.readItem() {
			return 0, false
		}
	}
	if len(r.items) == 0 {
		return 0, false
	}
	return r.items[len(r.items)-1].table, true
}

// readItem reads an item with the sign behind it, and tells whether there was
// one that may be.
func (r *reader) readItem() bool {
	variable := r.digit()
	if variable < 0 || variable >= r.vars {
		return false
	}
	no, isLink := r.link(variable)
	if !isLink || !r.sign(',') {
		return false
	}
	yes, isLink := r.link(variable)
	if !isLink || !r.sign(';') {
		return false
	}
	asked := tables.Variable(variable, r.vars)
	table := tables.Choose(asked, yes, no)
	r.items = append(r.items, item{variable: variable, table: table})
	return true
}

// link reads a link of an item that asks for a variable: the table of the
// function to which it goes, and whether there was one that may be.
func (r *reader) link(variable int) (uint64, bool) {
	if r.sign('n') {
		return 0, true
	}
	if r.sign('y') {
		return tables.Full(r.vars), true
	}
	number := r.number()
	if number < 0 || number >= len(r.items) {
		return 0, false
	}
	to := r.items[number]
	if to.variable <= variable {
		return 0, false
	}
	return to.table, true
}

// number reads a number, -1 if there is none. One that is no earlier item's may
// be -1 too.
func (r *reader) number() int {
	number := r.digit()
	if number <= 0 {
		// No digit may follow a 0 at the beginning. If one does, it
		// stands where a sign is due, and is refused there.
		return number
	}
	digit := r.digit()
	for digit >= 0 {
		number = number*10 + digit
		// More digits would only make it greater, in the end too great
		// for an int.
		if number >= len(r.items) {
			return -1
		}
		digit = r.digit()
	}
	return number
}

// digit reads a digit, -1 if there is none.
func (r *reader) digit() int {
	if r.at >= len(r.text) {
		return -1
	}
	c := r.text[r.at]
	if c < '0' || c > '9' {
		return -1
	}
	r.at++
	return int(c - '0')
}

// sign reads one sign, and tells whether it was there.
func (r *reader) sign(want byte) bool {
	if r.at >= len(r.text) || r.text[r.at] != want {
		return false
	}
	r.at++
	return true
}
