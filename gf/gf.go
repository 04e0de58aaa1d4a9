// Package gf is layer 1, the field of 256 elements: see shared/doc/01-gf.md.
package gf

const (
	// polynomial is x^8 + x^4 + x^3 + x^2 + 1, by which products are brought back to a byte.
	polynomial = 0x11d
	// order is how many powers 2 has: all the bytes but 0.
	order = 255
)

// Field is tables of powers of 2: powers by their exponents, and exponents by their powers.
type Field struct {
	powers    [order]byte
	exponents [256]byte
}

// New makes the tables.
func New() *Field {
	f := &Field{}
	power, n := 1, 0
next:
	f.powers[n] = byte(power)
	f.exponents[power] = byte(n)
	power = double(power)
	n++
	if n < order {
		goto next
	}
	return f
}

// double works in whole numbers, as the bit that leaves the byte tells whether to bring it back.
func double(power int) int {
	power <<= 1
	if power > 0xff {
		power ^= polynomial
	}
	return power
}

// Add is the sum of two bytes.
func Add(a, b byte) byte { return a ^ b }

// Mul is the product of two bytes.
func (f *Field) Mul(a, b byte) byte {
	if f == nil || a == 0 || b == 0 {
		return 0
	}
	return f.Exp(f.exponent(a) + f.exponent(b))
}

// Div is what makes a with b; there is no such byte if b is 0.
func (f *Field) Div(a, b byte) (byte, bool) {
	if f == nil || b == 0 {
		return 0, false
	}
	if a == 0 {
		return 0, true
	}
	return f.Exp(f.exponent(a) - f.exponent(b)), true
}

// Exp is a power of 2, of any exponent.
func (f *Field) Exp(n int) byte {
	if f == nil {
		return 0
	}
	return f.powers[rest(n)]
}

// Log tells which power of 2 a byte is; 0 is none.
func (f *Field) Log(a byte) (int, bool) {
	if f == nil || a == 0 {
		return 0, false
	}
	return f.exponent(a), true
}

// Pow is a power of a byte, of any exponent.
func (f *Field) Pow(a byte, n int) byte {
	if f == nil {
		return 0
	}
	if n == 0 {
		return 1
	}
	if a == 0 {
		return 0
	}
	// The rest is taken ahead of the product, so that no n overflows it.
	return f.Exp(f.exponent(a) * rest(n))
}

// Dot is the sum of products, place by place, of lists that are equally long.
func (f *Field) Dot(a, b []byte) (byte, bool) {
	if f == nil || len(a) != len(b) {
		return 0, false
	}
	var sum byte
	for i := range a {
		sum = Add(sum, f.Mul(a[i], b[i]))
	}
	return sum, true
}

// exponent is for a byte other than 0, of a field that is there.
func (f *Field) exponent(a byte) int { return int(f.exponents[a]) }

// rest brings an exponent into the table: powers come again after as many as there are.
func rest(n int) int {
	n %= order
	if n < 0 {
		n += order
	}
	return n
}
