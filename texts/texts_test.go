package texts

import (
	"math"
	"math/rand"
	"strings"
	"testing"

	"choice/tables"
)

func TestWriteAndRead(t *testing.T) {
	for _, c := range []struct {
		vars  int
		table uint64
		text  string
	}{
		{1, 0, "0"}, {1, 3, "1"}, {1, 2, "0n,y;"}, {1, 1, "0y,n;"},
		{3, 0, "0"}, {3, 255, "1"}, {3, 170, "0n,y;"}, {3, 15, "2y,n;"}, {3, 160, "2n,y;0n,0;"}, {3, 90, "2n,y;2y,n;00,1;"},
		{6, 0, "0"}, {6, math.MaxUint64, "1"}, {6, 1 << 63, "5n,y;4n,0;3n,1;2n,2;1n,3;0n,4;"},
		{6, 0xfefcfaf0eeccaa00, "5n,y;2n,0;4n,y;40,y;22,3;11,4;3n,y;30,y;26,7;32,y;33,y;29,10;18,11;05,12;"},
	} {
		if got := Write(c.table, c.vars); got != c.text {
			t.Errorf("Write(%x, %d) = %q, want %q", c.table, c.vars, got, c.text)
		}
		if got, said := Read(c.text, c.vars); got != c.table || !said {
			t.Errorf("Read(%q, %d) = %x, %v, want %x", c.text, c.vars, got, said, c.table)
		}
	}
}

func TestReadWhatWasWritten(t *testing.T) {
	r := rand.New(rand.NewSource(1))
	for range 500 {
		vars := 1 + r.Intn(6)
		table := r.Uint64() & r.Uint64() & tables.Full(vars)
		text := Write(table, vars)
		if got, said := Read(text, vars); got != table || !said {
			t.Fatalf("Read(%q, %d) = %x, %v, want %x", text, vars, got, said, table)
		}
	}
}

func TestReadNoText(t *testing.T) {
	for _, text := range []string{"", "2", "00", "0;", "0n,y", "0ny;", "0n,y;;", "0n,0;", "2n,y;2n,0;", "2n,y;0n,00;", "2n,y;0n,1;", "3n,y;", "0n,\xff;", strings.Repeat("2n,y;", 401)} {
		if got, said := Read(text, 3); got != 0 || said {
			t.Errorf("Read(%.40q, 3) = %x, %v", text, got, said)
		}
	}
}

func TestNumbersOfVariablesBeyondBounds(t *testing.T) {
	for _, vars := range []int{math.MinInt, -1, 0} {
		if got, said := Read("0n,y;", vars); got != 0 || said {
			t.Errorf("Read by %d variables = %x, %v", vars, got, said)
		}
		if no, yes := Write(0, vars), Write(1, vars); no != "0" || yes != "1" {
			t.Errorf("Write by %d variables = %q, %q", vars, no, yes)
		}
	}
	for _, vars := range []int{7, math.MaxInt} {
		if got, said := Read("5n,y;", vars); got != 0xffffffff00000000 || !said {
			t.Errorf("Read by %d variables = %x, %v", vars, got, said)
		}
		if got := Write(0xffffffff00000000, vars); got != "5n,y;" {
			t.Errorf("Write by %d variables = %q", vars, got)
		}
	}
}
