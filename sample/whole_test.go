package sample_test

import (
	"math/big"
	"slices"
	"testing"

	"pelorus/api"
	"pelorus/sample"
)

func TestWholeNumbersAsLimbs(t *testing.T) {
	for _, c := range []struct {
		digits string // hexadecimal
		want   api.Whole
	}{
		{"0", api.Whole{}},
		{"1", api.Whole{M: []uint32{1}}},
		{"-1", api.Whole{Neg: true, M: []uint32{1}}},
		{"ffffffff", api.Whole{M: []uint32{0xffffffff}}},
		{"100000000", api.Whole{M: []uint32{0, 1}}},
		{"-123456789abcdef01", api.Whole{Neg: true, M: []uint32{0xabcdef01, 0x23456789, 1}}},
		{"fedcba9876543210", api.Whole{M: []uint32{0x76543210, 0xfedcba98}}},
	} {
		n, is := new(big.Int).SetString(c.digits, 16)
		if !is {
			t.Fatal(c.digits)
		}
		got := sample.Whole(n)
		if got.Neg != c.want.Neg || !slices.Equal(got.M, c.want.M) || !sample.WholeMayBe(got) {
			t.Errorf("%s: %v", c.digits, got)
		}
		if back := new(big.Int).SetBytes(sample.Bytes(got.M)); back.Cmp(new(big.Int).Abs(n)) != 0 {
			t.Errorf("%s: back as %x", c.digits, back)
		}
	}
}

func TestWhichWholeNumbersMayBe(t *testing.T) {
	for _, w := range []api.Whole{{Neg: true}, {Neg: true, M: []uint32{}}, {M: []uint32{0}}, {Neg: true, M: []uint32{0}}, {M: []uint32{1, 0}}} {
		if sample.WholeMayBe(w) {
			t.Errorf("%v may not be", w)
		}
	}
	for _, w := range []api.Whole{{}, {M: []uint32{}}, {M: []uint32{0, 1}}, {Neg: true, M: []uint32{7}}} {
		if !sample.WholeMayBe(w) {
			t.Errorf("%v may be", w)
		}
	}
}
