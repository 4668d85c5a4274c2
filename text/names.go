package text

import (
	"saltern/api"
)

// reckoned: names of operations that reckon with whole numbers; and the others, "" of none.
func reckoned(op int) string {
	switch op {
	case api.Add:
		return "add"
	case api.Or:
		return "or"
	case api.Adc:
		return "adc"
	case api.Sbb:
		return "sbb"
	case api.And:
		return "and"
	case api.Sub:
		return "sub"
	case api.Xor:
		return "xor"
	case api.Cmp:
		return "cmp"
	case api.Test:
		return "test"
	case api.Not:
		return "not"
	case api.Neg:
		return "neg"
	case api.Mul:
		return "mul"
	case api.Imul:
		return "imul"
	case api.Div:
		return "div"
	case api.Idiv:
		return "idiv"
	case api.Inc:
		return "inc"
	case api.Dec:
		return "dec"
	case api.Times:
		return "imul"
	case api.Rol:
		return "rol"
	case api.Ror:
		return "ror"
	case api.Shl:
		return "shl"
	case api.Shr:
		return "shr"
	case api.Sar:
		return "sar"
	}
	return moved(op)
}

// moved: those that lay something elsewhere, or say where it goes on; and the others.
func moved(op int) string {
	switch op {
	case api.Mov:
		return "mov"
	case api.Movzx:
		return "movzx"
	case api.Movsx:
		return "movsx"
	case api.Lea:
		return "lea"
	case api.Xchg:
		return "xchg"
	case api.Push:
		return "push"
	case api.Pop:
		return "pop"
	case api.Jcc:
		return "j"
	case api.Jmp:
		return "jmp"
	case api.Call:
		return "call"
	case api.Ret:
		return "ret"
	case api.Setcc:
		return "set"
	case api.Cmov:
		return "cmov"
	}
	return bare(op)
}

// bare: those that never have operands; and the others.
func bare(op int) string {
	switch op {
	case api.Cwde:
		return "cwde"
	case api.Cdq:
		return "cdq"
	case api.Hlt:
		return "hlt"
	case api.Int3:
		return "int3"
	case api.Clc:
		return "clc"
	case api.Stc:
		return "stc"
	case api.Cmc:
		return "cmc"
	case api.Cld:
		return "cld"
	case api.Std:
		return "std"
	case api.Movs:
		return "movs"
	case api.Stos:
		return "stos"
	case api.Lods:
		return "lods"
	case api.Leave:
		return "leave"
	case api.Nop:
		return "nop"
	}
	return doubled(op)
}

// doubled: those of doubles.
func doubled(op int) string {
	switch op {
	case api.Movd:
		return "movsd"
	case api.Addd:
		return "addsd"
	case api.Muld:
		return "mulsd"
	case api.Subd:
		return "subsd"
	case api.Mind:
		return "minsd"
	case api.Divd:
		return "divsd"
	case api.Maxd:
		return "maxsd"
	case api.Sqrtd:
		return "sqrtsd"
	case api.Fromi:
		return "cvtsi2sd"
	case api.Toi:
		return "cvttsd2si"
	case api.Ucomi:
		return "ucomisd"
	}
	return ""
}
