package series

import (
	"girdle/api"
	"girdle/dyad"
	"girdle/limbs"
	"girdle/mat"
	"girdle/ratio"
	"girdle/span"
)

// spareBits is how many more bits than are asked for are reckoned with at first, as each step loses some.
const spareBits = 24

// refined is the enclosures in more bits than are asked for: in so many that they are no wider than those that are asked for tell.
func refined(a [][]api.Rat, t api.Rat, halves, bits int) (Growth, api.Errno) {
	// Each doubling of the time loses two bits, about; of some tables far more, which may even grow beyond all bounds in too few bits.
	for working := bits + spareBits + 2*halves; ; working *= 2 {
		p, e := enclosed(a, t, halves, working)
		if 2*working > dyad.MaxBits || e == api.OK && fine(p.Exp, bits) && fine(p.Sum, bits) {
			return p, e
		}
	}
}

// fine: is no number of a table wider than what so many bits tell of it, or of nothing twice as many?
func fine(a [][]api.Span, bits int) bool {
	for _, row := range a {
		for _, x := range row {
			width, e := span.Width(x)
			wide, f := dyad.Mul(width, power(bits))
			if e != api.OK || f != api.OK || dyad.Less(dyad.Max(span.Size(x), power(-bits)), wide) {
				return false
			}
		}
	}
	return true
}

// enclosed is the enclosures, reckoned in so many bits: of the time halved so often, and then doubled as often.
func enclosed(a [][]api.Rat, t api.Rat, halves, bits int) (Growth, api.Errno) {
	time, e := near(t, bits)
	if e != api.OK {
		return Growth{}, e
	}
	if time, e = product(time, span.Point(power(-halves)), bits); e != api.OK {
		return Growth{}, e
	}
	x, e := each(a, func(r api.Rat) (api.Span, api.Errno) {
		s, e := near(r, bits)
		if e != api.OK {
			return api.Span{}, e
		}
		return product(s, time, bits)
	})
	if e != api.OK {
		return Growth{}, e
	}
	p, e := short(x, tail(a), time, bits)
	for range halves {
		if e == api.OK {
			p, e = twice(p, bits, times, plus)
		}
	}
	return p, e
}

// short is the enclosures of a table that is at most a half, as its norm tells, and of its time.
func short(x, rest [][]api.Span, time api.Span, bits int) (Growth, api.Errno) {
	count, _ := terms(bits)
	// From the last term on, 1 + x/2 + x x/6 and so on is 1 and x/2 times what is behind: 1 + x/3 and so on.
	mean := rest
	var e api.Errno
	for n := count + 1; n > 1 && e == api.OK; n-- {
		mean, e = behind(x, mean, n, bits)
	}
	if e != api.OK {
		return Growth{}, e
	}
	exp, e := behind(x, mean, 1, bits)
	if e != api.OK {
		return Growth{}, e
	}
	sum, e := each(mean, func(y api.Span) (api.Span, api.Errno) { return product(y, time, bits) })
	if e != api.OK {
		return Growth{}, e
	}
	return Growth{Exp: exp, Sum: sum}, api.OK
}

// behind is 1 and a table divided by n, times another one.
func behind(x, y [][]api.Span, n, bits int) ([][]api.Span, api.Errno) {
	part, e := span.Near(ratio.Of(1, int64(n)), bits)
	if e != api.OK {
		return nil, e
	}
	z, e := times(x, y, bits)
	if e != api.OK {
		return nil, e
	}
	if z, e = each(z, func(s api.Span) (api.Span, api.Errno) { return product(s, part, bits) }); e != api.OK {
		return nil, e
	}
	one, e := mat.Near(mat.One(len(x)), bits)
	if e != api.OK {
		return nil, e
	}
	return plus(one, z, bits)
}

// tail is what is left from some term on, divided by that term: 1, and behind it, where any power of the table isn't nothing, less than a quarter.
func tail(a [][]api.Rat) [][]api.Span {
	table := make([][]api.Span, len(a))
	for i, row := range linked(a) {
		table[i] = make([]api.Span, len(row))
		for j, is := range row {
			if is {
				table[i][j] = span.Even(power(-2))
			}
			if i == j {
				// Of such numbers there is no error.
				table[i][j], _ = span.Add(table[i][j], span.Point(power(0)), minBits)
			}
		}
	}
	return table
}

// linked tells of each place whether a power of a table may be other than nothing there: whether its row leads to its column.
func linked(a [][]api.Rat) [][]bool {
	table := make([][]bool, len(a))
	for i, row := range a {
		table[i] = make([]bool, len(row))
		for j, x := range row {
			table[i][j] = ratio.Sign(x) != 0
		}
	}
	for k := range table {
		for i := range table {
			for j := range table {
				table[i][j] = table[i][j] || table[i][k] && table[k][j]
			}
		}
	}
	return table
}

// terms is the least number for which 2 to its power, times 1, 2 and so on to it, has at least two bits more than so many; and how many that has.
func terms(bits int) (int, int) {
	count, last := 0, limbs.Of(1)
	for limbs.Bits(last) < bits+2 {
		count++
		// What has no more bits than layer 5 may ask for has room.
		last, _ = limbs.Mul(last, limbs.Of(2*uint64(count)))
	}
	return count, limbs.Bits(last)
}
