package num

import "quadratrix/api"

// Gcd returns the greatest common divisor.
func Gcd(a, b api.Int) api.Int {
	if !both(a, b) {
		return api.Int{}
	}
	return signed(false, divisor(a.Abs, b.Abs))
}

// Bezout returns the greatest common divisor as a combination.
func Bezout(a, b api.Int) (g, u, v api.Int, e api.Errno) {
	if !both(a, b) {
		return api.Int{}, api.Int{}, api.Int{}, api.ErrForm
	}
	if len(b.Abs) == 0 {
		return Abs(a), Of(Sign(a)), api.Int{}, api.OK
	}
	d, factor := inverse(a, b.Abs)
	g, u = signed(false, d), signed(false, factor)
	v, _, e = Div(Sub(g, Mul(u, a)), b)
	return g, u, v, e
}

// divisor returns the greatest common divisor of two absolute values.
func divisor(a, b []uint32) []uint32 {
	if compare(a, b) < 0 {
		a, b = b, a
	}
	s := euclid{a: own(a), b: own(b)}
	s.run()
	return s.a
}

// inverse returns the greatest common divisor of a and n, which is not 0, and the least u from 0 on for which it differs from u a by a multiple of n.
func inverse(a api.Int, n []uint32) (d, u []uint32) {
	_, r := divide(a.Abs, n)
	s := euclid{a: own(n), b: r, y: []uint32{1}}
	s.run()
	// The factors are those of |a|, up to multiples of n; y has become n / d, and x is below it.
	if len(s.x) > 0 && s.odd == a.Neg {
		return s.a, difference(s.y, s.x)
	}
	return s.a, s.x
}

// euclid is where Euclid's algorithm has come to: two remainders, a not less than b, in memory of their own, which are multiples of some number by the factors x and y, up to multiples of another one. Of the factors there are the absolute values; their signs differ and change with each step: odd tells that that of x is + and that of y is -. Both factors stay 0 if they are not asked for.
type euclid struct {
	a, b []uint32
	x, y []uint32
	odd  bool
}

// run goes on until b is 0, so that a is the greatest common divisor.
func (s *euclid) run() {
	for len(s.b) > singleWords {
		t, odd := guessTurn(s.a, s.b)
		if t.q == 0 {
			s.divide()
		} else {
			s.turn(t, odd)
		}
	}
	if len(s.b) > 0 && len(s.a) > singleWords {
		s.divide()
	}
	if len(s.b) > 0 {
		s.finish()
	}
}

// divide takes one step.
func (s *euclid) divide() {
	quo, rem := divide(s.a, s.b)
	s.a, s.b = s.b, rem
	s.x, s.y = s.y, sum(s.x, product(quo, s.y))
	s.odd = !s.odd
}

// carries are what is carried to the next words of two numbers.
type carries struct{ a, b int64 }

// turn takes the steps of t, which are right for a and b and whose numbers are below 2^31: so no sum goes beyond an int64.
func (s *euclid) turn(t turn, odd bool) {
	p, q, u, v := int64(t.p), int64(t.q), int64(t.u), int64(t.v)
	if odd {
		p, q, u, v = -p, -q, -u, -v
	}
	fold(s.a, s.b, carries{}, func(c carries, i int, x, y uint32) carries {
		c.a += p*int64(x) - q*int64(y)
		c.b += v*int64(y) - u*int64(x)
		s.a[i] = uint32(c.a)
		if i < len(s.b) {
			s.b[i] = uint32(c.b)
		}
		return carries{c.a >> 32, c.b >> 32}
	})
	s.a, s.b = trim(s.a), trim(s.b)
	s.x, s.y = mix(s.x, s.y, t.p, t.q), mix(s.x, s.y, t.u, t.v)
	s.odd = s.odd != odd
}

// mix returns p x + q y, for x not above y and for p and q below 2^31: so no sum goes beyond a uint64.
func mix(x, y []uint32, p, q uint64) []uint32 {
	if len(y) == 0 {
		return nil
	}
	out := make([]uint32, len(y)+1)
	carry := fold(y, x, 0, func(carry uint64, i int, ofY, ofX uint32) uint64 {
		t := p*uint64(ofX) + q*uint64(ofY) + carry
		out[i] = uint32(t)
		return t >> 32
	})
	out[len(y)] = uint32(carry)
	return trim(out)
}

// finish takes all the steps that are left, for a of at most singleWords words.
func (s *euclid) finish() {
	a, b := single(s.a), single(s.b)
	t, odd := noTurn(), false
	for b != 0 {
		quo := a / b
		a, b = b, a-quo*b
		t, odd = t.step(quo), !odd
	}
	s.a, s.b = fromSingle(a), nil
	if len(s.y) > 0 {
		s.x, s.y = spread(s.x, s.y, t.p, t.q), spread(s.x, s.y, t.u, t.v)
	}
	s.odd = s.odd != odd
}

// spread returns p x + q y.
func spread(x, y []uint32, p, q uint64) []uint32 {
	return sum(product(x, fromSingle(p)), product(y, fromSingle(q)))
}

// turn is what some steps do to the remainders: a and b become p a - q b and v b - u a, or the opposites of these if the number of steps is odd. To the absolute values of the factors the same is done without minus signs.
type turn struct{ p, q, u, v uint64 }

// noTurn returns the turn of no steps.
func noTurn() turn {
	return turn{p: 1, v: 1}
}

// step returns the turn with another step behind it, whose quotient is quo.
func (t turn) step(quo uint64) turn {
	return turn{t.u, t.v, t.p + quo*t.u, t.q + quo*t.v}
}

// guessTurn returns, as Lehmer does, steps that the highest bits of a and b are enough to tell, and whether their number is odd, for a of at least three words. By the condition of Collins a step is right if the remainders behind it are large against the numbers of its turn; the last step is left out, because it is not known to be right. As no more than 62 bits are looked at, the numbers of the turn are below 2^31.
func guessTurn(a, b []uint32) (sure turn, odd bool) {
	skip := bitLen(a) - 62
	x, y := bitsAt(a, skip), bitsAt(b, skip)
	t := noTurn()
	sure, odd = t, true
	for y >= t.v && x-y >= t.q+t.v {
		quo := x / y
		x, y = y, x-quo*y
		sure, t = t, t.step(quo)
		odd = !odd
	}
	return sure, odd
}

// bitsAt returns the lowest 64 bits of w divided by 2^n.
func bitsAt(w []uint32, n int) uint64 {
	i, k := n/32, n%32
	low := single(w[min(i, len(w)):])
	return low>>k | uint64(wordAt(w, i+2))<<(64-k)
}
