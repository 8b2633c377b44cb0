package choice_test

import (
	"fmt"
	"math"
	"math/rand"
	"slices"
	"strings"
	"testing"

	"choice/api"
)

// TestModelOfTexts: the model is as the examples of the document say.
func TestModelOfTexts(t *testing.T) {
	for _, c := range []struct {
		f    uint64
		want string
	}{{170, "0n,y;"}, {0, "0"}, {160, "2n,y;0n,0;"}, {90, "2n,y;2y,n;00,1;"}} {
		if got := textOf(3, c.f); got != c.want {
			t.Errorf("the text of %d: %q, want %q", c.f, got, c.want)
		}
		if f, said := functionOf(3, c.want); f != c.f || !said {
			t.Errorf("the function of %q: %d, %v, want %d", c.want, f, said, c.f)
		}
	}
	for _, text := range noTexts {
		if f, said := functionOf(3, text); said {
			t.Errorf("%.60q says the function %d", text, f)
		}
	}
}

// examplesOfTexts: the fifth of the examples, in the store of the others.
func examplesOfTexts(t *testing.T, m *pair) {
	t.Helper()
	for _, c := range []struct {
		h    api.Handle
		want string
	}{{1, "0n,y;"}, {6, "0"}, {3, "2n,y;0n,0;"}, {5, "2n,y;2y,n;00,1;"}} {
		if got, e := m.s.Export(c.h); got != c.want || e != api.OK {
			t.Errorf("P11: Export(%d) = %q, %d, want %q", c.h, got, e, c.want)
		}
	}
	must(t, "Import(`2n,y;0n,0;`)", 12, m.read("2n,y;0n,0;"), api.OK)
	must(t, "Import(`2n,y;2n,y;00,1;`)", 13, m.read("2n,y;2n,y;00,1;"), api.OK)
	for _, c := range [][2]api.Handle{{12, 3}, {13, 2}} {
		if v, e := m.s.Same(c[0], c[1]); !v || e != api.OK {
			t.Errorf("P12: Same(%d, %d) = %v, %d", c[0], c[1], v, e)
		}
	}
	for _, text := range []string{"", "2", "0n,y", "0n,0;", "2n,y;2n,0;", "3n,y;", "0ny;", "01,n;", "2n,y;0n,00;", "1;"} {
		h, e := m.s.Import(text)
		refused(t, fmt.Sprintf("Import(%q)", text), api.ErrText, h, e)
	}
	m.agrees()
}

// known: functions of six variables or fewer, and their texts.
var known = []struct {
	n    int
	f    uint64
	text string
}{
	{1, 0, "0"}, {1, 3, "1"}, {1, 2, "0n,y;"}, {1, 1, "0y,n;"},
	{2, 0, "0"}, {2, 15, "1"}, {2, 10, "0n,y;"}, {2, 12, "1n,y;"}, {2, 3, "1y,n;"},
	{2, 8, "1n,y;0n,0;"}, {2, 14, "1n,y;00,y;"}, {2, 6, "1n,y;1y,n;00,1;"}, {2, 9, "1y,n;1n,y;00,1;"},
	{3, 150, "2n,y;2y,n;10,1;11,0;02,3;"},
	{6, 0, "0"}, {6, math.MaxUint64, "1"},
	{6, 0xaaaaaaaaaaaaaaaa, "0n,y;"}, {6, 0xffffffff00000000, "5n,y;"}, {6, 0x00000000ffffffff, "5y,n;"},
	{6, 1 << 63, "5n,y;4n,0;3n,1;2n,2;1n,3;0n,4;"},
	{6, 1, "5y,n;40,n;31,n;22,n;13,n;04,n;"},
	// An odd number of yes: eleven items.
	{6, 0x6996966996696996, "5n,y;5y,n;40,1;41,0;32,3;33,2;24,5;25,4;16,7;17,6;08,9;"},
	// 0 and 3, or 1 and 4, or 2 and 5: links with two digits.
	{6, 0xfefcfaf0eeccaa00, "5n,y;2n,0;4n,y;40,y;22,3;11,4;3n,y;30,y;26,7;32,y;33,y;29,10;18,11;05,12;"},
}

// noTexts: what says no function to a store of three variables.
var noTexts = []string{
	"", "2", "00", "11", "01", "10", "n", "y", ",", ";", "0n", "0n,", "0n,y", ";0", "0;", "1;", "0n,y;;", ";0n,y;", "0n,y;0", "0n,y;1", "00n,y;", "0n,y;n",
	// Signs that are missing, that are too many, or that are others.
	"0ny;", "0n,y,n;", "0nn,y;", "0n,yy;", "0n,,y;", "0,n,y;", "0n;y;", "0n;y,", "n,y;", "0,y;", "0n,;", "0,;", ",;", "0n,y:", "0n.y;", "0N,y;", "0n,Y;", "an,y;", "0n,y;0n,y", "2n,y;0,0;", "2n,y;00,;", "2n,y;00;",
	" 0n,y;", "0 n,y;", "0n, y;", "0n,y ;", "0n,y; ", "0n,y;\n", "\n0n,y;", "0n,y;\x00", "\x000n,y;", "0n\x00,y;", "0n,\xff;", "\xff", "\xc3\xbc", "\u0660n,y;", "\uff10n,y;", "0n,\uff59;", " ", "\n", "0\n", " 1", "0 ", "\x00", "+1", "-0",
	// Variables that the store has not.
	"3n,y;", "4n,y;", "5n,y;", "6n,y;", "9n,y;", "3n,y;0n,y;", "3n,n;0n,y;", "3n,y;20,n;", "2n,y;3n,y;0n,0;", "5n,y;0n,0;", "10n,y;", "-1n,y;", "02n,y;",
	// Links to items that have not come yet, and to the item itself.
	"0n,0;", "00,n;", "01,n;", "0n,1;", "0n,1;2n,y;", "01,n;2n,y;", "2n,y;0n,1;", "2n,y;01,n;", "2n,y;0n,2;", "2n,y;1n,2;0n,1;", "2n,y;00,2;2n,y;0n,y;",
	// Links to items whose variable is not greater.
	"2n,y;2n,0;", "2n,y;20,y;", "0n,y;0n,0;", "0n,y;1n,0;", "0n,y;10,y;", "1n,y;20,n;", "2n,y;10,n;11,0;", "2n,y;10,n;1n,1;", "2n,y;10,n;20,n;", "2n,y;0n,y;10,1;", "1n,n;2n,y;10,1;",
	// Numbers with a 0 at their beginning, with a sign, or far too great.
	"2n,y;0n,00;", "2n,y;000,n;", "2n,y;0n,000;", "2n,y;2n,y;0n,01;", "2n,y;2n,y;001,n;", "2n,y;0n,-0;", "2n,y;0n,+0;", "2n,y;0-0,n;", "2n,y;0+0,n;", "0n,-1;", "2n,y;0n,0x0;", "2n,y;0n,0_0;", "2n,y;0n,0.0;", "2n,y;0n,1e0;",
	"2n,y;0n,10;", "2n,y;0n,256;", "2n,y;0n,65536;", "2n,y;0n,4294967296;", "2n,y;0n,18446744073709551616;", "2n,y;018446744073709551616,n;", "2n,y;0n,340282366920938463463374607431768211456;",
	"2n,y;0n,1" + strings.Repeat("0", 1900) + ";", "2n,y;0n," + strings.Repeat("9", 1980) + ";", "2n,y;0n," + strings.Repeat("0", 1980) + ";", "2n,y;0n," + strings.Repeat("9", 1992),
}

func TestP11Known(t *testing.T) {
	for _, c := range known {
		m := newPair(t, c.n, api.MaxRoom)
		h := m.make(c.f)
		if got, e := m.s.Export(h); got != c.text || e != api.OK {
			t.Errorf("P11: Export of %x = %q, %d, want %q", c.f, got, e, c.text)
		}
		k := m.read(c.text)
		if u, e := m.s.Table(k); u != c.f || e != api.OK {
			t.Errorf("P12: Import(%q): the table %x, %d, want %x", c.text, u, e, c.f)
		}
		m.agrees()
	}
}

func TestP11EveryFunction(t *testing.T) {
	for n := 1; n <= 3; n++ {
		every(t, n, func(m *pair) {
			text := m.write(m.live[0])
			h := m.read(text)
			if v, e := m.s.Same(m.live[0], h); !v || e != api.OK {
				t.Fatalf("P12: Import(%q) says something else: %v, %d", text, v, e)
			}
			m.checkNewest()
		})
	}
}

func TestP11OneNode(t *testing.T) {
	for n := 1; n <= api.MaxVars; n++ {
		m := newPair(t, n, 2*n)
		for i := range n {
			h, e := m.s.Var(i)
			m.expects("Var", tableOf(n, func(p int) bool { return p>>i&1 == 1 }), h, e)
			if got, e := m.s.Export(h); got != fmt.Sprintf("%dn,y;", i) || e != api.OK {
				t.Errorf("P11: Export of variable %d = %q, %d", i, got, e)
			}
			h, e = m.s.Apply(3, h, h)
			m.expects("Apply", tableOf(n, func(p int) bool { return p>>i&1 == 0 }), h, e)
			if got, e := m.s.Export(h); got != fmt.Sprintf("%dy,n;", i) || e != api.OK {
				t.Errorf("P11: Export of variable %d, turned round = %q, %d", i, got, e)
			}
		}
		for _, v := range flags {
			h, e := m.s.Const(v)
			m.expects("Const", tableOf(n, func(int) bool { return v }), h, e)
			if got, e := m.s.Export(h); got != map[bool]string{false: "0", true: "1"}[v] || e != api.OK {
				t.Errorf("P11: Export of %v everywhere = %q, %d", v, got, e)
			}
		}
		m.agrees()
	}
}

func TestP11BehindEveryOrder(t *testing.T) {
	r := rand.New(rand.NewSource(20))
	m := newPair(t, 4, api.MaxRoom)
	m.make(0)
	m.make(1<<16 - 1)
	for range 6 {
		m.make(drawn(r, 4))
	}
	before := []string{}
	for _, h := range m.live {
		before = append(before, m.write(h))
	}
	seen := map[[4]int]bool{}
	for range 400 {
		seen[[4]int(m.order)] = true
		for i, h := range m.live {
			if got, e := m.s.Export(h); got != before[i] || e != api.OK {
				t.Fatalf("P11: Export(%d) = %q, %d by the order %v, want %q", h, got, e, m.order, before[i])
			}
		}
		m.swap(r.Intn(3))
	}
	if len(seen) != 24 {
		t.Errorf("%d orders were seen only", len(seen))
	}
	m.agrees()
}

func TestP11BehindSift(t *testing.T) {
	// By the order that Sift finds there are fewer nodes than items.
	m := newPair(t, 6, 14)
	h := m.make(0xfefcfaf0eeccaa00)
	before := m.write(h)
	m.sift()
	if m.s.Used() >= 14 {
		t.Fatalf("P10: Used = %d after Sift", m.s.Used())
	}
	order := m.s.Order()
	if got := m.write(h); got != before {
		t.Errorf("P11: Export behind Sift = %q, want %q", got, before)
	}
	if got := m.s.Order(); !slices.Equal(got, order) || m.s.Used() >= 14 {
		t.Errorf("P11: Export changed the order: %v, %d nodes", got, m.s.Used())
	}
	// And by others there are more: the room is no bound to a text.
	m = newPair(t, 6, 6)
	for _, level := range []int{2, 1, 3} {
		m.swap(level)
	}
	h = m.make(0xfefcfaf0eeccaa00)
	if m.write(h) != before {
		t.Errorf("P11: Export with room for %d nodes", m.room)
	}
	m.agrees()
}

func TestP11BesideOthers(t *testing.T) {
	// A text has the items of its function alone, numbered from 0 on,
	// whatever else is there and in whatever order it came.
	r := rand.New(rand.NewSource(21))
	for n := 1; n <= api.MaxVars; n++ {
		m := newPair(t, n, api.MaxRoom)
		f := drawn(r, n)
		for range 10 {
			m.make(drawn(r, n))
			m.make(restricted(n, f, r.Intn(n), true))
		}
		alone := newPair(t, n, api.MaxRoom)
		want := alone.write(alone.make(f))
		h := m.make(f)
		for len(m.live) > 1 {
			if got := m.write(h); got != want {
				t.Fatalf("P11: Export beside others = %q, alone %q", got, want)
			}
			m.release(0)
		}
		if got := m.write(h); got != want {
			t.Errorf("P11: Export behind Release = %q, want %q", got, want)
		}
	}
}

func TestP11SameFunctionSameText(t *testing.T) {
	// However it was made.
	r := rand.New(rand.NewSource(22))
	for n := 1; n <= api.MaxVars; n++ {
		for range 20 {
			m := newPair(t, n, api.MaxRoom)
			a, b := m.make(drawn(r, n)), m.make(drawn(r, n))
			h, e := m.s.Apply(6, a, b)
			m.expects("Apply", applied(n, 6, m.table[a], m.table[b]), h, e)
			k, e := m.s.Apply(6, h, b)
			m.expects("Apply", m.table[a], k, e)
			if m.write(k) != m.write(a) {
				t.Fatalf("P11: two texts of one function: %q and %q", m.write(k), m.write(a))
			}
			m.read(m.write(h))
			m.agrees()
		}
	}
}

func TestP11NoHandle(t *testing.T) {
	m := newPair(t, 3, api.MaxRoom)
	for range 2 {
		for _, bad := range []api.Handle{0, m.next, m.next + 1, 77, 1 << 31, math.MaxUint32} {
			if got, e := m.s.Export(bad); got != "" || e != api.ErrHandle {
				t.Errorf("P11: Export(%d) = %q, %d", bad, got, e)
			}
		}
		m.make(90)
		m.read("0")
	}
	m.release(1)
	if got, e := m.s.Export(2); got != "" || e != api.ErrHandle {
		t.Errorf("P11: Export of a handle that was given back = %q, %d", got, e)
	}
	m.agrees()
}

func TestP11FullStore(t *testing.T) {
	// A text is no function that is made: it needs no handle and no room.
	m := newPair(t, 3, 5)
	m.make(150)
	fill(t, m.s)
	for range 3 {
		if got, e := m.s.Export(1); got != "2n,y;2y,n;10,1;11,0;02,3;" || e != api.OK {
			t.Errorf("P11: Export of a full store = %q, %d", got, e)
		}
	}
	if m.s.Used() != 5 {
		t.Errorf("P7: Used = %d", m.s.Used())
	}
	if e := m.s.Release(30); e != api.OK {
		t.Errorf("P5: Release(30) = %d", e)
	}
	h, e := m.s.Const(true)
	must(t, "Const behind Export", 31, h, e)
}

func TestP12NoTexts(t *testing.T) {
	m := newPair(t, 3, api.MaxRoom)
	m.make(150)
	m.make(90)
	m.release(1)
	for _, text := range noTexts {
		h, e := m.s.Import(text)
		refused(t, fmt.Sprintf("Import(%.60q)", text), api.ErrText, h, e)
		m.agrees()
	}
	must(t, "Import behind refusals", 3, m.read("2n,y;"), api.OK)
	m.agrees()
}

func TestP12NeedlessAndDouble(t *testing.T) {
	// Room for what the function needs, and not for what its text says.
	for _, c := range []struct {
		text string
		want uint64
		room int
	}{
		{"0n,n;", 0, 1}, {"0y,y;", 255, 1}, {"2n,n;", 0, 1},
		{"2n,y;2n,y;00,1;", 240, 1}, {"2n,y;00,0;", 240, 1}, {"2n,y;1n,y;0n,y;", 170, 1},
		{"2n,y;1n,y;", 204, 1}, {"2y,n;2n,y;11,0;10,1;0n,n;", 0, 1},
		{"2n,n;10,y;00,1;", 136, 2}, {"2n,y;2n,y;1n,0;1n,1;02,3;", 192, 2},
		{"2y,y;2n,n;11,0;0n,2;", 136, 2}, {"2n,y;2y,n;10,1;0n,0;", 160, 2},
		{strings.Repeat("2n,y;", 12) + "010,11;", 240, 1},
		{strings.Repeat("2n,y;", 12) + "0n,11;", 160, 2},
		{strings.Repeat("2n,y;2y,n;", 60) + "0118,119;", 90, 3},
	} {
		m := newPair(t, 3, c.room)
		h := m.read(c.text)
		if u, e := m.s.Table(h); u != c.want || e != api.OK {
			t.Errorf("P12: Import(%.60q): the table %d, %d, want %d", c.text, u, e, c.want)
		}
		m.agrees()
	}
}

// longest: texts of MaxText bytes, for six variables.
func longest(t *testing.T) []string {
	t.Helper()
	all := []string{
		strings.Repeat("5n,y;", 400),
		strings.Repeat("0n,y;1y,n;", 200),
		strings.Repeat("5n,y;", 399) + "0y,y;",
		// The last links go to the last items, whose numbers have three digits.
		strings.Repeat("5n,y;", 397) + "4n,396;" + "0397,10;",
	}
	for _, text := range all {
		if len(text) != api.MaxText {
			t.Fatalf("a text of %d bytes", len(text))
		}
	}
	return all
}

func TestP12Length(t *testing.T) {
	for _, text := range longest(t) {
		m := newPair(t, 6, 3)
		if h := m.read(text); h != 1 {
			t.Errorf("P12: Import(%.40q) of MaxText bytes = %d", text, h)
		}
		m.agrees()
		for _, more := range []string{text + ";", text + "0", text + "\n", ";" + text, text + "0n,y;", text[:1995] + "5y,10;", text + text, text[1:] + "00"} {
			if len(more) <= api.MaxText {
				t.Fatalf("a text of %d bytes", len(more))
			}
			h, e := m.s.Import(more)
			refused(t, fmt.Sprintf("Import(%.40q) of %d bytes", more, len(more)), api.ErrText, h, e)
		}
		m.read(text[:1999])
		m.read(text[1:])
		m.agrees()
	}
	// What would be right but for its length, by one byte or by many.
	m := newPair(t, 6, api.MaxRoom)
	for _, text := range []string{strings.Repeat("5n,y;", 397) + "4n,396;" + "0397,100;", strings.Repeat("5n,y;", 401), strings.Repeat("5n,y;", 2000), strings.Repeat("5n,y;", 5000000)} {
		h, e := m.s.Import(text)
		refused(t, fmt.Sprintf("Import of %d bytes", len(text)), api.ErrText, h, e)
	}
	m.agrees()
}

func TestP12TooLongNeedsNoRoom(t *testing.T) {
	// By their looks these say functions of two nodes, of which there is no
	// room for the second.
	m := newPair(t, 2, 1)
	both := strings.Repeat("1n,y;", 399) + "0n,0;"
	h, e := m.s.Import(both)
	refused(t, "Import of MaxText bytes without room", api.ErrRoom, h, e)
	h, e = m.s.Import("1n,y;" + both)
	refused(t, "Import of too many bytes without room", api.ErrText, h, e)
	oneMore := strings.Repeat("1n,y;", 397) + "0n,10;0n,1;0n,1;"
	if len(oneMore) != api.MaxText+1 {
		t.Fatalf("a text of %d bytes", len(oneMore))
	}
	h, e = m.s.Import(oneMore)
	refused(t, "Import of one byte too many without room", api.ErrText, h, e)
	// Nor is there any for what names a variable that is not there.
	for _, text := range []string{"2n,y;0n,0;", "2n,n;1n,y;0n,1;", "1n,y;0n,0;2n,y;", "1n,y;0n,0", "1n,y;0n,0;;"} {
		h, e = m.s.Import(text)
		refused(t, fmt.Sprintf("Import(%q) without room", text), api.ErrText, h, e)
	}
	fill(t, m.s)
	for _, text := range []string{both, both + "1", "1n,y;" + both, "2n,y;0n,0;", "1n,y;0n,0;", "1n,y;", "0", ""} {
		h, e = m.s.Import(text)
		refused(t, fmt.Sprintf("Import(%.40q), all live", text), api.ErrMany, h, e)
	}
}

func TestP12EveryShortText(t *testing.T) {
	const of = "0129ny,;"
	m := newPair(t, 2, api.MaxRoom)
	said, texts := 0, 1
	for length := range 7 {
		for k := range texts {
			text := make([]byte, length)
			for i := range text {
				text[i] = of[k%len(of)]
				k /= len(of)
			}
			if h := m.read(string(text)); h != 0 {
				said++
				m.checkNewest()
			}
		}
		texts *= len(of)
	}
	// The answers, and an item of either variable with four pairs of links.
	if said != 10 {
		t.Errorf("P12: %d texts said a function, want 10", said)
	}
	m.agrees()
}

func TestP12EverySecondAndThirdItem(t *testing.T) {
	links := []string{"n", "y", "0", "1", "2", "3", "00", "01", ""}
	said := 0
	m := newPair(t, 4, api.MaxRoom)
	for _, first := range []string{"3n,y;", "2n,y;", "2y,n;3n,y;", "3n,n;2n,0;"} {
		for v := range 5 {
			for _, no := range links {
				for _, yes := range links {
					text := fmt.Sprintf("%s%d%s,%s;", first, v, no, yes)
					for _, behind := range []string{"", "00,1;", "10,2;", "02,n;"} {
						if h := m.read(text + behind); h != 0 {
							said++
							m.checkNewest()
						}
					}
				}
			}
		}
	}
	if said < 200 {
		t.Errorf("%d texts said a function only", said)
	}
	m.agrees()
}

func TestP12EveryByteEverywhere(t *testing.T) {
	// One byte of a right text more, less, or other.
	text := "5n,y;2n,0;4n,y;40,y;22,3;11,4;3n,y;30,y;26,7;32,y;33,y;29,10;18,11;05,12;"
	m := newPair(t, 6, api.MaxRoom)
	try := func(other string) {
		t.Helper()
		if h := m.read(other); h != 0 {
			m.checkNewest()
		}
	}
	for at := range len(text) + 1 {
		try(text[:at])
		try(text[at:])
		for c := range 256 {
			try(text[:at] + string([]byte{byte(c)}) + text[at:])
			if at < len(text) {
				try(text[:at] + string([]byte{byte(c)}) + text[at+1:])
			}
		}
		if at < len(text) {
			try(text[:at] + text[at+1:])
			try(text[:at] + text[at:at+1] + text[at:])
		}
	}
	m.agrees()
}

func TestP12VariablesOfOtherStores(t *testing.T) {
	r := rand.New(rand.NewSource(23))
	fewer := 0
	for range 300 {
		n := 1 + r.Intn(api.MaxVars)
		from := newPair(t, n, api.MaxRoom)
		h := from.make(drawn(r, n))
		text := from.write(h)
		for k := 1; k <= api.MaxVars; k++ {
			to := newPair(t, k, api.MaxRoom)
			if got := to.read(text); (got == 0) != (supportOf(n, from.table[h])>>k != 0) {
				t.Fatalf("P12: Import(%q) by %d variables = %d", text, k, got)
			} else if got == 0 {
				fewer++
				continue
			}
			// It says the same, whatever the variables are that came along.
			for p := range 1 << k {
				v, e := to.s.Eval(1, api.Place(p))
				if v != says(from.table[h], p&(1<<n-1)) || e != api.OK {
					t.Fatalf("P12: Import(%q) by %d variables says %v, %d at %d", text, k, v, e, p)
				}
			}
			if again := to.write(1); again != text {
				t.Fatalf("P11: Export of what was read = %q, want %q", again, text)
			}
			to.agrees()
		}
	}
	if fewer < 100 {
		t.Errorf("%d texts named a variable that was not there only", fewer)
	}
	for n := 1; n < api.MaxVars; n++ {
		m := newPair(t, n, api.MaxRoom)
		for v := n; v <= 9; v++ {
			for _, text := range []string{"%dn,y;", "%dn,n;", "%dn,y;0n,0;", "%dn,n;0n,y;", "0n,y;%dn,y;", "0n,y;%dy,y;0n,y;"} {
				h, e := m.s.Import(fmt.Sprintf(text, v))
				refused(t, fmt.Sprintf(text, v), api.ErrText, h, e)
			}
		}
		m.agrees()
	}
}

func TestP12OtherOrders(t *testing.T) {
	r := rand.New(rand.NewSource(24))
	for range 200 {
		n := 2 + r.Intn(api.MaxVars-1)
		from, to := newPair(t, n, api.MaxRoom), newPair(t, n, api.MaxRoom)
		from.make(drawn(r, n))
		to.make(drawn(r, n))
		for range r.Intn(10) {
			from.swap(r.Intn(n - 1))
			to.swap(r.Intn(n - 1))
		}
		if r.Intn(3) == 0 {
			to.sift()
		}
		text := from.write(1)
		h := to.read(text)
		to.agrees()
		to.swap(r.Intn(n - 1))
		to.sift()
		if again := to.write(h); again != text {
			t.Fatalf("P11: Export of what was read = %q, want %q", again, text)
		}
		to.agrees()
	}
}

func TestP12JustEnoughRoom(t *testing.T) {
	r := rand.New(rand.NewSource(25))
	enough, short := 0, 0
	for range 400 {
		n := 2 + r.Intn(api.MaxVars-1)
		there, text := drawn(r, n), drawnText(r, n, 1+r.Intn(30))
		f, _ := functionOf(n, text)
		order := natural(n)
		var levels []int
		for range r.Intn(8) {
			levels = append(levels, r.Intn(n-1))
			order = swapped(order, levels[len(levels)-1])
		}
		need := nodesOf(order, []uint64{there, f})
		if need <= max(nodesOf(order, []uint64{there}), 1) {
			continue
		}
		for _, room := range []int{need, need - 1} {
			m := newPair(t, n, room)
			for _, level := range levels {
				m.swap(level)
			}
			m.make(there)
			if h := m.read(text); (h != 0) != (room == need) {
				t.Fatalf("P12: Import(%q) = %d, room for %d nodes, %d are needed", text, h, room, need)
			}
			m.agrees()
			if room == need {
				enough++
				continue
			}
			short++
			// Nothing is left behind, and once there is room it goes in.
			m.make(there)
			m.agrees()
			m.release(1)
			m.release(0)
			m.read(text)
			m.agrees()
		}
	}
	if enough < 100 || short < 100 {
		t.Errorf("just enough room %d times only, one node less %d times", enough, short)
	}
}

func TestP12RoomOfOne(t *testing.T) {
	m := newPair(t, 3, 1)
	for _, text := range []string{"0", "1", "2n,y;", "2n,y;", "1n,y;", "2y,n;", "2n,y;0n,0;", "0n,n;", "2n,y;00,0;"} {
		m.read(text)
		m.agrees()
	}
	if len(m.live) != 6 {
		t.Errorf("P12: %d functions went in, want 6", len(m.live))
	}
}

func TestP12Many(t *testing.T) {
	m := newPair(t, 3, 5)
	for i := range api.MaxLive {
		if h := m.read([]string{"2n,y;2y,n;10,1;11,0;02,3;", "0", "2n,y;"}[i%3]); int(h) != i+1 {
			t.Fatalf("P12: Import, time %d = %d", i+1, h)
		}
	}
	m.agrees()
	for _, text := range append([]string{"0", "1", "2n,y;", "0n,y;", "2n,y;2y,n;10,1;11,0;02,3;", strings.Repeat("2n,y;", 401)}, noTexts...) {
		h, e := m.s.Import(text)
		refused(t, fmt.Sprintf("Import(%.60q), all live", text), api.ErrMany, h, e)
	}
	m.agrees()
	for _, k := range []int{0, 28, 13} {
		m.release(k)
		h, e := m.s.Import("?")
		refused(t, "Import(`?`), one is not live", api.ErrText, h, e)
		h, e = m.s.Import("0n,y;")
		refused(t, "Import of a sixth node, one is not live", api.ErrRoom, h, e)
		m.read("2y,n;")
		m.read("2y,n;")
		m.agrees()
	}
	if m.next != 34 {
		t.Errorf("P4: the next handle is %d, want 34", m.next)
	}
}

func TestP12Drawn(t *testing.T) {
	r := rand.New(rand.NewSource(26))
	said, not := 0, 0
	for n := 1; n <= api.MaxVars; n++ {
		m := newPair(t, n, api.MaxRoom)
		for range 1500 {
			text := drawnText(r, n, 1+r.Intn(20))
			if h := m.read(text); h == 0 {
				t.Fatalf("P12: Import(%q) = 0", text)
			}
			m.checkNewest()
			if h := m.read(spoiled(r, text)); h == 0 {
				not++
			} else {
				said++
				m.checkNewest()
			}
			if r.Intn(20) == 0 {
				m.swap(r.Intn(n))
			}
		}
		m.agrees()
	}
	if said < 200 || not < 500 {
		t.Errorf("%d spoiled texts said a function, %d did not", said, not)
	}
}

func TestP12AnyBytes(t *testing.T) {
	r := rand.New(rand.NewSource(27))
	m := newPair(t, 6, api.MaxRoom)
	for range 3000 {
		b := make([]byte, r.Intn(40))
		for i := range b {
			b[i] = byte(r.Intn(256))
			if r.Intn(3) > 0 {
				b[i] = signs[r.Intn(len(signs))]
			}
		}
		m.read(string(b))
		if len(m.live) == api.MaxLive {
			m.release(0)
		}
	}
	for c := range 256 {
		for _, length := range []int{1, 2, 1999, 2000, 2001, 100000} {
			if h := m.read(strings.Repeat(string([]byte{byte(c)}), length)); h != 0 {
				m.checkNewest()
			}
		}
	}
	m.agrees()
}

func TestP2TextsOfTwoStores(t *testing.T) {
	// A text that came out stays as it is, and what was read goes its own way.
	one, two := newPair(t, 4, api.MaxRoom), newPair(t, 4, api.MaxRoom)
	h := one.make(0xbeef)
	text := one.write(h)
	kept := strings.Clone(text)
	two.make(1)
	k := two.read(text)
	one.swap(1)
	one.release(0)
	one.make(0x1234)
	two.sift()
	if text != kept || two.write(k) != kept {
		t.Errorf("P2: the text was %q and is %q; read and written again %q", kept, text, two.write(k))
	}
	one.agrees()
	two.agrees()
}
