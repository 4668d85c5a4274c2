package text_test

import (
	"encoding/hex"
	"slices"
	"strings"
	"testing"

	"saltern/api"
	"saltern/decode"
	"saltern/text"
)

// reading: bytes, and the text of the instruction that they are.
type reading struct{ b, want string }

// readings: of all operations.
func readings() []reading {
	return []reading{
		{"83 e0 e0", "and eax, 0xffffffe0"}, {"00 d8", "add al, bl"}, {"01 35 04 03 02 01", "add dword [0x1020304], esi"}, {"0a 44 98 08", "or al, byte [eax+ebx*4+0x8]"}, {"13 24 24", "adc esp, dword [esp]"}, {"1b 7d fe", "sbb edi, dword [ebp+0xfffffffe]"},
		{"24 80", "and al, 0x80"}, {"2d 00 00 00 80", "sub eax, 0x80000000"}, {"34 ff", "xor al, 0xff"}, {"38 c7", "cmp bh, al"}, {"80 3c 24 0f", "cmp byte [esp], 0xf"}, {"81 84 8d 01 02 03 04 05 06 07 08", "add dword [ebp+ecx*4+0x4030201], 0x8070605"},
		{"84 e1", "test cl, ah"}, {"a9 00 01 00 00", "test eax, 0x100"}, {"f6 10", "not byte [eax]"}, {"f7 d0", "not eax"}, {"f6 d9", "neg cl"}, {"f7 e1", "mul ecx"}, {"f7 28", "imul dword [eax]"}, {"f7 eb", "imul ebx"}, {"f7 f6", "div esi"}, {"f7 38", "idiv dword [eax]"},
		{"41", "inc ecx"}, {"fe c4", "inc ah"}, {"4f", "dec edi"}, {"fe 08", "dec byte [eax]"}, {"ff 00", "inc dword [eax]"}, {"54", "push esp"}, {"68 78 56 34 12", "push 0x12345678"}, {"6a 80", "push 0xffffff80"}, {"ff 75 08", "push dword [ebp+0x8]"}, {"5d", "pop ebp"}, {"8f 00", "pop dword [eax]"},
		{"69 c3 0a 00 00 00", "imul eax, ebx, 0xa"}, {"6b 4e 04 ff", "imul ecx, dword [esi+0x4], 0xffffffff"}, {"6b c9 00", "imul ecx, ecx, 0x0"}, {"0f af c3", "imul eax, ebx"}, {"0f af 03", "imul eax, dword [ebx]"},
		{"86 1e", "xchg byte [esi], bl"}, {"87 d9", "xchg ecx, ebx"}, {"91", "xchg eax, ecx"}, {"88 07", "mov byte [edi], al"}, {"89 e5", "mov ebp, esp"}, {"8a e5", "mov ah, ch"}, {"8b 05 78 56 34 12", "mov eax, dword [0x12345678]"}, {"8b 04 08", "mov eax, dword [eax+ecx]"}, {"b4 ff", "mov ah, 0xff"}, {"be 01 00 00 00", "mov esi, 0x1"},
		{"a0 78 56 34 12", "mov al, byte [0x12345678]"}, {"a3 00 00 00 00", "mov dword [0x0], eax"}, {"c6 45 ff 80", "mov byte [ebp+0xffffffff], 0x80"}, {"c7 04 24 0a 00 00 00", "mov dword [esp], 0xa"},
		{"8d 4d 10", "lea ecx, [ebp+0x10]"}, {"8d 04 8d 00 00 00 00", "lea eax, [ecx*4]"}, {"8d 05 00 00 00 00", "lea eax, [0x0]"}, {"8d 7c c4 01", "lea edi, [esp+eax*8+0x1]"},
		{"c1 c0 ff", "rol eax, 0xffffffff"}, {"c1 c9 05", "ror ecx, 0x5"}, {"c1 20 03", "shl dword [eax], 0x3"}, {"d1 ea", "shr edx, 0x1"}, {"d3 f8", "sar eax, cl"},
		{"70 05", "jo 0x5"}, {"7f fe", "jg 0xfffffffe"}, {"0f 85 00 01 00 00", "jne 0x100"}, {"e8 78 56 34 12", "call 0x12345678"}, {"ff d2", "call edx"}, {"e9 00 00 00 00", "jmp 0x0"}, {"eb fe", "jmp 0xfffffffe"}, {"ff 20", "jmp dword [eax]"}, {"c2 08 00", "ret 0x8"}, {"c3", "ret"},
		{"0f 45 c8", "cmovne ecx, eax"}, {"0f 4c 0b", "cmovl ecx, dword [ebx]"}, {"0f 94 c7", "sete bh"}, {"0f 9f 28", "setg byte [eax]"}, {"90", "nop"}, {"98", "cwde"}, {"99", "cdq"}, {"c9", "leave"}, {"cc", "int3"}, {"f4", "hlt"}, {"f5", "cmc"}, {"f8", "clc"}, {"f9", "stc"}, {"fc", "cld"}, {"fd", "std"},
		{"a4", "movsb"}, {"a5", "movsd"}, {"aa", "stosb"}, {"ab", "stosd"}, {"ac", "lodsb"}, {"ad", "lodsd"}, {"f3 a4", "rep movsb"}, {"f3 a5", "rep movsd"}, {"f3 aa", "rep stosb"}, {"f3 ab", "rep stosd"},
		{"0f b6 c5", "movzx eax, ch"}, {"0f b6 08", "movzx ecx, byte [eax]"}, {"0f b7 d6", "movzx edx, esi"}, {"0f b7 10", "movzx edx, word [eax]"}, {"0f be cf", "movsx ecx, bh"}, {"0f be 08", "movsx ecx, byte [eax]"}, {"0f bf c4", "movsx eax, esp"}, {"0f bf 6c 24 02", "movsx ebp, word [esp+0x2]"},
		{"f2 0f 10 ca", "movsd xmm1, xmm2"}, {"f2 0f 10 04 24", "movsd xmm0, qword [esp]"}, {"f2 0f 11 00", "movsd qword [eax], xmm0"}, {"f2 0f 2a c8", "cvtsi2sd xmm1, eax"}, {"f2 0f 2a 00", "cvtsi2sd xmm0, dword [eax]"}, {"f2 0f 2c c1", "cvttsd2si eax, xmm1"}, {"f2 0f 2c 08", "cvttsd2si ecx, qword [eax]"},
		{"f2 0f 51 c1", "sqrtsd xmm0, xmm1"}, {"f2 0f 58 00", "addsd xmm0, qword [eax]"}, {"f2 0f 59 ff", "mulsd xmm7, xmm7"}, {"f2 0f 5c d3", "subsd xmm2, xmm3"}, {"f2 0f 5d e5", "minsd xmm4, xmm5"}, {"f2 0f 5e f0", "divsd xmm6, xmm0"}, {"f2 0f 5f 5d f8", "maxsd xmm3, qword [ebp+0xfffffff8]"}, {"66 0f 2e c1", "ucomisd xmm0, xmm1"}, {"66 0f 2e 00", "ucomisd xmm0, qword [eax]"},
	}
}

func TestInstrOfBytes(t *testing.T) {
	seen := map[int]int{}
	for _, x := range readings() {
		b, err := hex.DecodeString(strings.ReplaceAll(x.b, " ", ""))
		if err != nil {
			t.Fatal(err)
		}
		i, e := decode.One(b)
		if e != api.OK || i.Len != len(b) {
			t.Fatalf("the test's own list: %s: %d", x.b, e)
		}
		seen[i.Op]++
		instr(t, i, x.want)
		if got := written(i); got != x.want {
			t.Errorf("the test's own model: of %s: %q, not %q", x.b, got, x.want)
		}
	}
	if len(seen) != api.Ops-1 {
		t.Errorf("the test's own list: %d operations", len(seen))
	}
}

// book: texts, and the instruction of each.
type book map[string]api.Instr

// alike answers i without what its text needn't tell: its Len, and whether the only register of a place is base or index.
func alike(i api.Instr) api.Instr {
	i.Len = 0
	for _, o := range []*api.Operand{&i.A, &i.B} {
		if o.Kind == api.Mem && o.Base < 0 && o.Scale == 1 {
			o.Base, o.Index = o.Index, -1
		}
	}
	return i
}

// enter asks that what is read of these bytes, if there is an instruction, has a text of its own and names for all of it.
func (all book) enter(t *testing.T, b []byte) {
	t.Helper()
	i, err := decode.One(b)
	if err != api.OK {
		return
	}
	instr(t, i, written(i))
	s := text.Instr(i)
	if strings.Contains(s, "?") || strings.TrimSpace(s) != s || strings.Contains(s, "  ") {
		t.Fatalf("P12.3: Instr(%+v): %q", i, s)
	}
	i = alike(i)
	if other, found := all[s]; found && other != i {
		t.Fatalf("P12.3: %q of %+v and of %+v", s, other, i)
	}
	all[s] = i
}

// Whatever is read of bytes has names for all of it, and unlike instructions have unlike texts.
func TestWhatRunsCanBeRead(t *testing.T) {
	all := book{}
	for _, ahead := range []string{"", "\x0f", "\xf2\x0f", "\x66\x0f", "\xf3"} {
		for first := range 256 {
			for second := range 256 {
				for _, tail := range []string{"\x81\x92\xa3\xb4\xc5\xd6\xe7\xf8\x89\x9a", "\x4b\x7f\x00\x00\x00\x00\x00\x00\x00\x00", "\x25\x00\x00\x00\x00\x0f\x00\x00\x00\x00"} {
					all.enter(t, slices.Concat([]byte(ahead), []byte{byte(first), byte(second)}, []byte(tail)))
				}
			}
		}
	}
	if len(all) < 1<<14 {
		t.Errorf("the test's own bytes: %d texts", len(all))
	}
}
