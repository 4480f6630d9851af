package num_test

import (
	"math/big"
	"slices"
	"testing"

	"quadratrix/api"
	"quadratrix/num"
)

// canonical reports, without package num, whether an integer is canonical.
func canonical(a api.Int) bool {
	n := len(a.Abs)
	return n == 0 && !a.Neg || n > 0 && a.Abs[n-1] != 0
}

func same(a, b api.Int) bool {
	return a.Neg == b.Neg && slices.Equal(a.Abs, b.Abs)
}

// fromBig and toBig compute without package num, so that math/big can be held against it.
func fromBig(n *big.Int) api.Int {
	a := api.Int{Neg: n.Sign() < 0}
	rest := new(big.Int).Abs(n)
	for _, b := range slices.Backward(rest.FillBytes(make([]byte, (rest.BitLen()+31)/32*4))) {
		a.Abs = append(a.Abs, uint32(b))
	}
	for i := range len(a.Abs) / 4 {
		a.Abs[i] = a.Abs[4*i] | a.Abs[4*i+1]<<8 | a.Abs[4*i+2]<<16 | a.Abs[4*i+3]<<24
	}
	a.Abs = a.Abs[:len(a.Abs)/4]
	return a
}

func toBig(a api.Int) *big.Int {
	var bytes []byte
	for _, w := range slices.Backward(a.Abs) {
		bytes = append(bytes, byte(w>>24), byte(w>>16), byte(w>>8), byte(w))
	}
	n := new(big.Int).SetBytes(bytes)
	if a.Neg {
		n.Neg(n)
	}
	return n
}

// whole returns the integer n without package num.
func whole(n int64) api.Int {
	return fromBig(big.NewInt(n))
}

// invalid are integers that are not canonical.
func invalid() []api.Int {
	return []api.Int{
		{Neg: true},
		{Neg: true, Abs: []uint32{}},
		{Abs: []uint32{0}},
		{Neg: true, Abs: []uint32{0}},
		{Abs: []uint32{5, 0}},
		{Neg: true, Abs: []uint32{5, 0}},
		{Abs: []uint32{0, 0, 0}},
	}
}

// words yields numbers that look random and are the same in each run.
type words struct{ state uint64 }

func (w *words) next() uint32 {
	w.state = w.state*6364136223846793005 + 1442695040888963407
	return uint32(w.state >> 33 << 1)
}

func (w *words) below(n int) int {
	return int(w.next()>>1) % n
}

// word returns a word, often one at which carries begin or end.
func (w *words) word() uint32 {
	switch w.below(8) {
	case 0, 1:
		return 0
	case 2:
		return 1
	case 3:
		return 1 << 31
	case 4, 5:
		return 1<<32 - 1
	}
	return w.next() + uint32(w.below(2))
}

// number returns an integer of n words.
func (w *words) number(n int) api.Int {
	a := api.Int{}
	for range n {
		a.Abs = append(a.Abs, w.word())
	}
	if n > 0 {
		a.Abs[n-1] = max(a.Abs[n-1], 1)
		a.Neg = w.below(2) == 1
	}
	return a
}

// some returns integers of up to seven words, the borders of the first words among them.
func some() []api.Int {
	var out []api.Int
	for _, k := range []uint{0, 1, 31, 32, 33, 63, 64, 65, 96} {
		for d := int64(-1); d <= 1; d++ {
			n := new(big.Int).Lsh(big.NewInt(1), k)
			n.Add(n, big.NewInt(d))
			out = append(out, fromBig(n), fromBig(n.Neg(n)))
		}
	}
	w := &words{state: 1}
	for i := range 60 {
		out = append(out, w.number(i%8))
	}
	return out
}

// pairs hands pairs of integers to f: all pairs of some, and pairs of long ones of many ratios of their lengths.
func pairs(f func(a, b api.Int)) {
	list := some()
	for _, a := range list {
		for _, b := range list {
			f(a, b)
		}
	}
	w := &words{state: 2}
	for _, n := range []int{8, 17, 40, 48, 49, 50, 95, 96, 97, 98, 99, 130, 200, 401} {
		for _, m := range []int{1, 2, 3, 20, 49, 50, 51, 98, 110, 201, 402} {
			f(w.number(n), w.number(m))
		}
	}
}

// triples hands triples of integers to f.
func triples(f func(a, b, c api.Int)) {
	w := &words{state: 3}
	for i := range 3000 {
		f(w.number(i%5), w.number(w.below(6)), w.number(w.below(7)))
	}
	for range 20 {
		f(w.number(60+w.below(60)), w.number(50+w.below(100)), w.number(w.below(150)))
	}
}

// expect reports an integer that is not the canonical one with the value want.
func expect(t *testing.T, what string, got api.Int, want *big.Int, args ...api.Int) {
	t.Helper()
	if !canonical(got) || toBig(got).Cmp(want) != 0 {
		t.Errorf("%s of %v is %v, want %v", what, args, got, want)
	}
}

// parsed returns the integer of a text that is one.
func parsed(t *testing.T, text string) api.Int {
	t.Helper()
	n, ok := new(big.Int).SetString(text, 10)
	if !ok {
		t.Fatal(text)
	}
	return fromBig(n)
}

func power(t *testing.T, a api.Int, n int) api.Int {
	t.Helper()
	p, e := num.Pow(a, n)
	if e != api.OK {
		t.Fatalf("Pow(%v, %d): %d", a, n, e)
	}
	return p
}
