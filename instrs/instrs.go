// Package instrs: instructions as decode.One tells them, for the tests of the layers.
package instrs

import (
	"strconv"
	"strings"

	"saltern/api"
	"saltern/decode"
)

// One answers the instruction of such bytes, hexadecimal ones with blanks between; noughts if they aren't just one.
func One(bytes string) api.Instr {
	var b []byte
	for word := range strings.FieldsSeq(bytes) {
		v, err := strconv.ParseUint(word, 16, 8)
		if err != nil {
			return api.Instr{}
		}
		b = append(b, byte(v))
	}
	if i, e := decode.One(b); e == api.OK && i.Len == len(b) {
		return i
	}
	return api.Instr{}
}

// Of answers instructions of each operation that is asked for, each one once: of each opcode with each register, and with memory of each make, of a low number and one with a sign.
func Of(is func(op int) bool) []api.Instr {
	var all []api.Instr
	seen := map[api.Instr]int{}
	for _, b := range beginnings() {
		for _, rest := range rests() {
			i, err := decode.One(append(b[:len(b):len(b)], rest...))
			if err != api.OK || !is(i.Op) || seen[i] > 0 {
				continue
			}
			seen[i]++
			all = append(all, i)
		}
	}
	return all
}

// beginnings answers all opcodes, and bytes that are none.
func beginnings() [][]byte {
	var all [][]byte
	for k := range 256 {
		b := byte(k)
		all = append(all, []byte{b}, []byte{0x0f, b}, []byte{0x66, 0x0f, b}, []byte{0xf2, 0x0f, b}, []byte{0xf3, b})
	}
	return all
}

// rests answers bytes that may stand behind an opcode.
func rests() [][]byte {
	var all [][]byte
	for k := range 64 {
		all = append(all, behind(byte(0xc0+k))...)
	}
	for reg := range byte(8) {
		// Of each base, and a number of one byte; 0x24 is that of all but ESP.
		for base := range byte(8) {
			all = append(all, behind(0x40|reg<<3|base, 0x24, 0x05)...)
		}
		// [EBX], [n], [EAX + EBX*4 + n], [ESP + ECX*2 + n], [EBP*8 + n].
		all = append(all, behind(reg<<3|0x03)...)
		all = append(all, behind(reg<<3|0x05, 0x11, 0x22, 0x33, 0x44)...)
		all = append(all, behind(0x84|reg<<3, 0x98, 0x11, 0x22, 0x33, 0x44)...)
		all = append(all, behind(0x84|reg<<3, 0x4c, 0x11, 0x22, 0x33, 0x44)...)
		all = append(all, behind(0x04|reg<<3, 0xed, 0x11, 0x22, 0x33, 0x44)...)
	}
	return all
}

// behind answers these bytes with numbers behind them: a low one, and one of which each byte has a sign.
func behind(b ...byte) [][]byte {
	b = b[:len(b):len(b)]
	return [][]byte{append(b, 0x05, 0, 0, 0, 0), append(b, 0x9f, 0xfe, 0xfd, 0xfc, 0xfb)}
}
