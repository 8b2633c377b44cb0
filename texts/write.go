// Package texts writes functions as texts and reads them: a text has an item
// for each node, and an item says its variable and where its two links go.
package texts

import (
	"strconv"

	"choice/diagram"
)

// Write is the text of the function of a table, by the order 0, 1, 2, ..
func Write(table uint64, vars int) string {
	// A diagram of its own has the nodes of this function alone, in the
	// order of the items and by no order but the one of New.
	empty := diagram.New(vars)
	whole, root := empty.With(table)
	switch root {
	case diagram.No:
		return "0"
	case diagram.Yes:
		return "1"
	}
	text := ""
	for _, n := range whole.List() {
		variable := strconv.Itoa(n.Variable)
		no := linkText(n.No)
		yes := linkText(n.Yes)
		text += variable + no + "," + yes + ";"
	}
	return text
}

// linkText is how a text says a link.
func linkText(l diagram.Link) string {
	switch l {
	case diagram.No:
		return "n"
	case diagram.Yes:
		return "y"
	}
	return strconv.Itoa(l.Number())
}
