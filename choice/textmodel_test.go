package choice_test

import (
	"fmt"
	"math/bits"
	"math/rand"
	"regexp"
	"slices"
	"strconv"
	"strings"

	"choice/api"
)

// textOf: what Export must answer, by the document's words: functions and what
// they become, and no diagram.
func textOf(n int, f uint64) string {
	everywhere := tableOf(n, func(int) bool { return true })
	switch f {
	case 0:
		return "0"
	case everywhere:
		return "1"
	}
	link := map[uint64]string{0: "n", everywhere: "y"}
	var items []string
	var add func(g uint64)
	add = func(g uint64) {
		if link[g] != "" {
			return
		}
		v := bits.TrailingZeros8(uint8(supportOf(n, g)))
		no, yes := restricted(n, g, v, false), restricted(n, g, v, true)
		add(no)
		add(yes)
		link[g] = strconv.Itoa(len(items))
		items = append(items, fmt.Sprintf("%d%s,%s;", v, link[no], link[yes]))
	}
	add(f)
	return strings.Join(items, "")
}

// itemForm: an item without the sign behind it.
var itemForm = regexp.MustCompile(`^([0-9])(n|y|0|[1-9][0-9]*),(n|y|0|[1-9][0-9]*)$`)

// functionOf: the function that a text says to a store of n variables, and
// whether it says one.
func functionOf(n int, text string) (uint64, bool) {
	if len(text) > api.MaxText {
		return 0, false
	}
	if text == "0" || text == "1" {
		return tableOf(n, func(int) bool { return text == "1" }), true
	}
	list, ends := strings.CutSuffix(text, ";")
	if !ends {
		return 0, false
	}
	var variables []int
	var found []uint64
	for _, item := range strings.Split(list, ";") {
		parts := itemForm.FindStringSubmatch(item)
		if parts == nil {
			return 0, false
		}
		v := int(parts[1][0] - '0')
		var links [2]uint64
		for i, part := range parts[2:] {
			switch k, e := strconv.Atoi(part); {
			case part == "n":
			case part == "y":
				links[i] = tableOf(n, func(int) bool { return true })
			case e != nil || k >= len(found) || variables[k] <= v:
				return 0, false
			default:
				links[i] = found[k]
			}
		}
		if v >= n {
			return 0, false
		}
		variables = append(variables, v)
		found = append(found, tableOf(n, func(p int) bool { return says(links[p>>v&1], p) }))
	}
	return found[len(found)-1], true
}

// read hands a text to Import.
func (m *pair) read(text string) api.Handle {
	m.t.Helper()
	h, e := m.s.Import(text)
	if table, said := functionOf(m.n, text); said {
		m.expects(fmt.Sprintf("Import(%.60q)", text), table, h, e)
		return h
	}
	want := api.ErrText
	if len(m.live) == api.MaxLive {
		want = api.ErrMany
	}
	if h != 0 || e != want {
		m.t.Fatalf("P12: Import(%.60q) by %d variables = %d, %d, want 0, %d", text, m.n, h, e, want)
	}
	return h
}

// write asks for the text of a live handle.
func (m *pair) write(h api.Handle) string {
	m.t.Helper()
	want := textOf(m.n, m.table[h])
	got, e := m.s.Export(h)
	if got != want || e != api.OK {
		m.t.Fatalf("P11: Export(%d) = %q, %d, want %q; its table is %d, the order %v", h, got, e, want, m.table[h], m.order)
	}
	return got
}

// drawnText: a text that says a function of n variables in so many items.
// Some of them nothing needs, some say the same, some have two equal links.
func drawnText(r *rand.Rand, n, items int) string {
	var text strings.Builder
	var variables []int
	for i := range items {
		v := r.Intn(n)
		if i == items-1 && r.Intn(4) > 0 {
			v = 0
		}
		links := []string{"n", "y"}
		for k := range variables {
			if variables[k] > v {
				links = append(links, strconv.Itoa(k))
			}
		}
		// The later ones say more.
		pick := func() string { return links[max(r.Intn(len(links)), r.Intn(len(links)))] }
		fmt.Fprintf(&text, "%d%s,%s;", v, pick(), pick())
		variables = append(variables, v)
	}
	return text.String()
}

// signs: what texts are made of, and what they are not.
const signs = "0123456789ny,;ny,;ny,; -+NY.\n\x00\xff"

// spoiled: a text with one or two bytes more, less, or other, or with two of
// its pieces in each other's place.
func spoiled(r *rand.Rand, text string) string {
	b := []byte(text)
	for range 1 + r.Intn(2) {
		at, c := r.Intn(len(b)+1), signs[r.Intn(len(signs))]
		switch {
		case at == len(b) || r.Intn(4) == 0:
			b = slices.Insert(b, at, c)
		case r.Intn(3) == 0:
			b = slices.Delete(b, at, at+1)
		case r.Intn(5) == 0:
			b = slices.Concat(b[at:], b[:at])
		default:
			b[at] = c
		}
	}
	return string(b)
}
