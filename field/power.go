package field

// power returns base to the power of exponent, modulo P. Its steps are method values of the one number that they change.
func power(base, exponent words) words {
	n := words{1}
	square, times := n.square, n.times
	for i := 255; i >= 0; i-- {
		square()
		if exponent.bit(i) {
			times(base)
		}
	}
	return n
}

// inverse returns a to the power of P - 2, since a to the power of P - 1 is 1 unless a is 0.
func inverse(a words) words {
	return power(a, below(255, 21))
}

// root returns a number less than P whose square is a, which is less than P as well.
func root(a words) (words, bool) {
	n := power(a, below(252, 2)) // (P + 3) / 8: if a is a square, n * n is a or -a
	if isRoot(n, a) {
		return n.rest(), true
	}
	n.times(power(words{2}, below(253, 5))) // 2 to the power of (P - 1) / 4: its square is -1, since 2 is no square
	if isRoot(n, a) {
		return n.rest(), true
	}
	return words{}, false
}

func isRoot(n, a words) bool {
	n.square()
	return n.rest() == a
}
