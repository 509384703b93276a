package crc

import "testing"

// P2.1: the numbers stay as they were made: one that is spoilt behind the first sum isn't made anew.
func TestNumbersAreNeverMadeAgain(t *testing.T) {
	x := New()
	if x.numbers != [256]uint32{} {
		t.Fatal("the numbers are made ahead of the first sum")
	}
	right := x.Sum([]byte("a"))
	x.numbers[255^'a']++
	if x.Sum([]byte("a")) == right || x.Made() != 1 {
		t.Error("the numbers were made again, or aren't those that a sum is made of")
	}
}
