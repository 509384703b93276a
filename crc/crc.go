// Package crc is layer 2: see shared/doc/02-crc.md.
package crc

import (
	"bytes"
	"sync"
)

const (
	polynomial = 0x82F63B78 // of CRC-32C, its bits turned round
	sumBytes   = 4
)

// Of is the sum of bytes. It goes bit by bit: most bytes that are summed are fewer than would pay for a table.
func Of(b []byte) uint32 {
	register := ^uint32(0)
	for _, x := range b {
		register = halve8(register ^ uint32(x))
	}
	return ^register
}

// halve8 is what eight halvings make of a register.
func halve8(register uint32) uint32 {
	for range 8 {
		odd := register & 1
		register = register>>1 ^ odd*polynomial
	}
	return register
}

// Table has a number for each byte, made when it is first needed.
type Table struct {
	once    sync.Once
	numbers [256]uint32
	made    int
}

// New has none yet.
func New() *Table {
	return &Table{}
}

// Sum is that of bytes.
func (t *Table) Sum(b []byte) uint32 {
	return t.Add(0, b) // of no bytes the sum is 0
}

// Add goes on with a sum.
func (t *Table) Add(sum uint32, b []byte) uint32 {
	if t == nil {
		return 0
	}
	t.once.Do(t.makeNumbers)
	register := ^sum
	for _, x := range b {
		register = t.numbers[byte(register)^x] ^ register>>8
	}
	return ^register
}

// Made is how often the numbers were made.
func (t *Table) Made() int {
	if t == nil {
		return 0
	}
	return t.made
}

func (t *Table) makeNumbers() {
	for i := range t.numbers {
		t.numbers[i] = halve8(uint32(i))
	}
	t.made++
}

// Bytes are a sum's, the lowest first.
func Bytes(sum uint32) []byte {
	b := make([]byte, sumBytes)
	for i := range b {
		b[i] = byte(sum >> (8 * i))
	}
	return b
}

// Check asks whether bytes have a sum.
func Check(b []byte, sum []byte) bool {
	return bytes.Equal(Bytes(Of(b)), sum)
}
