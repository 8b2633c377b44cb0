package diagram

// Move answers the diagram in whose order the variable of one level has gone
// to another, while the others have kept their order among themselves. It has
// the nodes of the functions to which the links lead and no other; with it come
// the links to the same functions there.
func (d *Diagram) Move(from int, to int, links []Link) (Diagram, []Link) {
	moved := Diagram{order: d.moved(from, to)}
	led := []Link{}
	for _, l := range links {
		table := d.Table(l)
		link := moved.build(0, table)
		led = append(led, link)
	}
	return moved, led
}

// moved is the order of Move; that of the diagram, if a level is none.
func (d *Diagram) moved(from int, to int) []int {
	order := d.Order()
	if !d.hasLevel(from) || !d.hasLevel(to) {
		return order
	}
	v := order[from]
	for level := from; level < to; level++ {
		order[level] = order[level+1]
	}
	for level := from; level > to; level-- {
		order[level] = order[level-1]
	}
	order[to] = v
	return order
}

// hasLevel tells whether there is such a level.
func (d *Diagram) hasLevel(level int) bool {
	return level >= 0 && level < len(d.order)
}

// Sift answers the diagram of the functions to which the links lead, by an
// order that no move of one variable betters, and the links to the same
// functions there.
func (d *Diagram) Sift(links []Link) (Diagram, []Link) {
	best, led := d.Keep(links)
	before := len(best.nodes) + 1
	// Each round but the last brings fewer nodes than the one before.
	for len(best.nodes) < before {
		before = len(best.nodes)
		next, moved := best.bestMove(led)
		best = next
		led = moved
	}
	return best, led
}

// bestMove answers what Move does with those levels that lead to the fewest
// nodes, the first of several such. The order stays if no move betters it.
func (d *Diagram) bestMove(links []Link) (Diagram, []Link) {
	best, led := d.Keep(links)
	for from := range d.order {
		for to := range d.order {
			next, moved := d.Move(from, to, links)
			if next.Nodes() < len(best.nodes) {
				best = next
				led = moved
			}
		}
	}
	return best, led
}
