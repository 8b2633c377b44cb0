// Package diagram keeps functions as decision diagrams: nodes that ask for one
// variable each and that all functions share.
package diagram

import (
	"choice/api"
	"choice/tables"
)

// Link leads to No, to Yes, or to a node.
type Link int

const (
	No  Link = 0
	Yes Link = 1
	// first is the link to the first node: links below it are answers.
	first = 2
)

// Node asks for a variable and goes on by one of two links.
type Node struct {
	Variable int
	No       Link
	Yes      Link
}

// Number tells which node of List a link leads to, a number below 0 if it is an
// answer.
func (l Link) Number() int {
	return int(l) - first
}

// Diagram has nodes of which no two are alike and none has two equal links:
// so equal functions have equal links. A node's links lead to earlier nodes
// alone: so every walk along them ends.
//
// What others can call never changes the diagram that it is called on, so that
// a caller whom the new one does not suit still has the one from before.
type Diagram struct {
	order []int
	nodes []Node
}

// New makes a diagram without any node, in whose order variable i is at
// level i.
func New(vars int) Diagram {
	d := Diagram{}
	for i := 0; i < vars && i < api.MaxVars; i++ {
		d.order = append(d.order, i)
	}
	return d
}

// Order lists the variables, that of level 0 first.
func (d *Diagram) Order() []int {
	return append([]int{}, d.order...)
}

// Nodes tells how many nodes there are.
func (d *Diagram) Nodes() int {
	return len(d.nodes)
}

// List lists the nodes, each behind those to which its links lead.
func (d *Diagram) List() []Node {
	return append([]Node{}, d.nodes...)
}

// With answers the diagram that also has the nodes of the function of a table,
// and the link to that function. The nodes that were not there yet come last:
// for each node those of its first link, then those of its second, then itself.
func (d *Diagram) With(table uint64) (Diagram, Link) {
	grown := Diagram{order: d.order, nodes: append([]Node{}, d.nodes...)}
	link := grown.build(0, table)
	return grown, link
}

// build adds the nodes of a table that hangs on no variable of a level above.
// Each one that it adds is a node of the function, so none is added in vain.
func (d *Diagram) build(level int, table uint64) Link {
	if level >= len(d.order) {
		// No variable is left to hang on: one place speaks for all.
		if table&1 == 1 {
			return Yes
		}
		return No
	}
	v := d.order[level]
	no := d.build(level+1, tables.Fix(table, v, false))
	yes := d.build(level+1, tables.Fix(table, v, true))
	return d.join(Node{Variable: v, No: no, Yes: yes})
}

// join links to a node, which is added only if there is none like it.
func (d *Diagram) join(n Node) Link {
	if n.No == n.Yes {
		return n.No
	}
	for i, old := range d.nodes {
		if old == n {
			return Link(first + i)
		}
	}
	d.nodes = append(d.nodes, n)
	return Link(first + len(d.nodes) - 1)
}

// Keep answers the diagram that has only the nodes of the functions to which
// the links lead, and the links to the same functions there.
func (d *Diagram) Keep(links []Link) (Diagram, []Link) {
	reached := d.reached(links)
	kept := Diagram{order: d.order}
	moved := make([]Link, len(reached))
	moved[Yes] = Yes
	for i, n := range d.nodes {
		if reached[first+i] {
			moved[first+i] = Link(first + len(kept.nodes))
			kept.nodes = append(kept.nodes, Node{Variable: n.Variable, No: moved[n.No], Yes: moved[n.Yes]})
		}
	}
	led := []Link{}
	for _, l := range links {
		if d.leads(l) {
			led = append(led, moved[l])
		} else {
			led = append(led, No)
		}
	}
	return kept, led
}

// reached tells of each link whether one of these leads to it in the end.
func (d *Diagram) reached(links []Link) []bool {
	reached := make([]bool, first+len(d.nodes))
	for _, l := range links {
		if d.leads(l) {
			reached[l] = true
		}
	}
	// Later nodes come first, as links lead to earlier ones alone.
	for i := len(d.nodes) - 1; i >= 0; i-- {
		if reached[first+i] {
			reached[d.nodes[i].No] = true
			reached[d.nodes[i].Yes] = true
		}
	}
	return reached
}

// leads tells whether a link leads anywhere in this diagram.
func (d *Diagram) leads(l Link) bool {
	return l >= No && int(l) < first+len(d.nodes)
}

// Says tells what the function of a link says at a place.
func (d *Diagram) Says(l Link, at api.Place) bool {
	for l >= first && d.leads(l) {
		n := d.nodes[l-first]
		l = n.No
		if at>>uint(n.Variable)&1 == 1 {
			l = n.Yes
		}
	}
	return l == Yes
}

// Table is the table of the function of a link.
func (d *Diagram) Table(l Link) uint64 {
	table := uint64(0)
	places := 1 << uint(len(d.order))
	for p := 0; p < places; p++ {
		if d.Says(l, api.Place(p)) {
			table |= 1 << uint(p)
		}
	}
	return table
}

// Size tells how many nodes the function of a link has.
func (d *Diagram) Size(l Link) int {
	size := 0
	reached := d.reached([]Link{l})
	for i := range d.nodes {
		if reached[first+i] {
			size++
		}
	}
	return size
}

// Support is the set of the variables that the function of a link hangs on. As
// no node has two equal links, these are the ones that its nodes ask for.
func (d *Diagram) Support(l Link) api.Set {
	support := api.Set(0)
	reached := d.reached([]Link{l})
	for i, n := range d.nodes {
		if reached[first+i] {
			support |= 1 << uint(n.Variable)
		}
	}
	return support
}
