package codec

import (
	"encoding/binary"
	"math"
	"testing"

	"scrivener/api"
)

// checkKind holds the digits of some numbers of one kind to the standard library's.
func checkKind[N whole](t *testing.T, numbers ...N) {
	t.Helper()
	for _, n := range numbers {
		want := string(binary.AppendUvarint([]byte("ahead"), uint64(n)))
		if got := string(appendNum([]byte("ahead"), n)); got != want || !isNumber(n) {
			t.Errorf("C1: %T %d: %x, want %x", n, n, got, want)
		}
	}
}

type named int16

func TestAllKinds(t *testing.T) {
	checkKind[int](t, 0, 1, 127, 128, 16383, 16384, 1<<62-1, 1<<62)
	checkKind[int8](t, 0, 1, 126, math.MaxInt8)
	checkKind[int16](t, 0, 127, 128, math.MaxInt16)
	checkKind[int32](t, 0, 127, 128, math.MaxInt32)
	checkKind[int64](t, 0, 127, 128, 1<<56-1, 1<<56, 1<<62)
	checkKind[uint](t, 0, 127, 128, 1<<62)
	checkKind[uint8](t, 0, 127, 128, math.MaxUint8)
	checkKind[uint16](t, 0, 127, 128, math.MaxUint16)
	checkKind[uint32](t, 0, 127, 128, math.MaxUint32)
	checkKind[uint64](t, 0, 127, 128, 1<<62)
	checkKind[uintptr](t, 0, 127, 128, 1<<62)
	checkKind[named](t, 0, 127, 128, math.MaxInt16)
}

func TestNoNumbers(t *testing.T) {
	if isNumber(-1) || isNumber(int8(-128)) || isNumber(math.MinInt) || isNumber(1<<62+1) || isNumber(math.MaxInt) || isNumber(uint64(math.MaxUint64)) {
		t.Error("C1: a number below 0 or above 2 to the power of 62")
	}
}

func TestFaultText(t *testing.T) {
	if s := (fault{api.ErrCodecShort, 7}).Error(); s != "codec: error 21 behind 7 bytes" {
		t.Error(s)
	}
}
