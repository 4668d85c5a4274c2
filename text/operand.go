package text

import (
	"strconv"
	"strings"

	"saltern/api"
)

// number answers 0x and hexadecimal digits.
func number(v uint32) string {
	return "0x" + strconv.FormatUint(uint64(v), 16)
}

// memory answers memory with how many bytes it has. One of its parts is always told.
func memory(o api.Operand, size int) string {
	var b strings.Builder
	b.WriteString(width(size))
	tell(&b, "[", "+", whole(o.Base), index(o), added(o))
	b.WriteString("]")
	return b.String()
}

// width answers the word for so many bytes, with its blank.
func width(size int) string {
	switch size {
	case 1:
		return "byte "
	case 2:
		return "word "
	case 4:
		return "dword "
	case 8:
		return "qword "
	}
	return ""
}

// index answers the index and its scale, "" where there is none: a scale alone says nothing.
func index(o api.Operand) string {
	name := whole(o.Index)
	if name == "" || o.Scale <= 1 {
		return name
	}
	return name + "*" + strconv.Itoa(o.Scale)
}

// added answers Disp, "" of a nought beside a base or an index.
func added(o api.Operand) string {
	if o.Disp == 0 && (whole(o.Base) != "" || whole(o.Index) != "") {
		return ""
	}
	return number(o.Disp)
}

// whole answers the name of a register of 32 bits, "" of none.
func whole(reg int) string {
	switch reg {
	case api.EAX:
		return "eax"
	case api.ECX:
		return "ecx"
	case api.EDX:
		return "edx"
	case api.EBX:
		return "ebx"
	case api.ESP:
		return "esp"
	case api.EBP:
		return "ebp"
	case api.ESI:
		return "esi"
	case api.EDI:
		return "edi"
	}
	return ""
}

// low answers the name of a register of 8 bits, "" of none.
func low(reg int) string {
	switch reg {
	case 0:
		return "al"
	case 1:
		return "cl"
	case 2:
		return "dl"
	case 3:
		return "bl"
	case 4:
		return "ah"
	case 5:
		return "ch"
	case 6:
		return "dh"
	case 7:
		return "bh"
	}
	return ""
}

// double answers the name of a double's register, "" of none.
func double(reg int) string {
	switch reg {
	case 0, 1, 2, 3, 4, 5, 6, 7:
		return "xmm" + strconv.Itoa(reg)
	}
	return ""
}
