package bloom_test

import (
	"bytes"
	"encoding/hex"
	"fmt"
	"math"
	"math/big"
	"strings"
	"testing"

	"staddle/api"
	"staddle/bloom"
)

// rising is n bytes that rise by steps and go round, so that each differs from its neighbours.
func rising(n, step int) string {
	b := make([]byte, n)
	for i := range b {
		b[i] = byte(i * step % 251)
	}
	return string(b)
}

// numbered are n keys, no two of them the same.
func numbered(n int) []string {
	keys := make([]string, n)
	for i := range keys {
		keys[i] = fmt.Sprintf("k%d", i)
	}
	return keys
}

// hashPlainly is a key's number as the document tells it, in whole numbers that are cut to 32 bits at each step.
func hashPlainly(key string) uint64 {
	const cut, factor = 1 << 32, 0xC6A4A793
	h := 0xBC9F1D34 ^ uint64(len(key))*factor%cut
	at := 0
	for ; at+4 <= len(key); at += 4 {
		n := uint64(key[at]) + uint64(key[at+1])*256 + uint64(key[at+2])*65536 + uint64(key[at+3])*16777216
		h = (h + n) % cut * factor % cut
		h ^= h / 65536
	}
	left := key[at:]
	if len(left) == 3 {
		h = (h + uint64(left[2])*65536) % cut
	}
	if len(left) >= 2 {
		h = (h + uint64(left[1])*256) % cut
	}
	if len(left) >= 1 {
		h = (h + uint64(left[0])) % cut * factor % cut
		h ^= h / 16777216
	}
	return h
}

// placesPlainly are the places of a key's bits, each worked out by itself.
func placesPlainly(key string, probes int, count uint64) []uint64 {
	h := hashPlainly(key)
	d := h>>17 + h%(1<<17)<<15
	places := make([]uint64, probes)
	for i := range places {
		places[i] = (h + uint64(i)*d) % (1 << 32) % count
	}
	return places
}

// product is two floats' product as a float64, rounded down: by whole numbers, rounded once.
func product(a, b float64) int {
	p := new(big.Float).SetPrec(53).Mul(big.NewFloat(a), big.NewFloat(b))
	n, _ := p.Int64()
	return int(n)
}

// buildPlainly is the filter that the document tells, its bits in a map till all are known.
func buildPlainly(keys []string, bits float64) []byte {
	probes := max(1, product(0.69, bits))
	count := max(64, product(bits, float64(len(keys))))
	for count%8 != 0 {
		count++
	}
	set := map[uint64]bool{}
	for _, key := range keys {
		for _, place := range placesPlainly(key, probes, uint64(count)) {
			set[place] = true
		}
	}
	var filter []byte
	for first := 0; first < count; first += 8 {
		sum := 0
		for i, worth := range []int{1, 2, 4, 8, 16, 32, 64, 128} {
			if set[uint64(first+i)] {
				sum += worth
			}
		}
		filter = append(filter, byte(sum))
	}
	return append(filter, byte(probes))
}

// mayPlainly is what the document tells of a filter and a key.
func mayPlainly(filter []byte, key string) bool {
	if len(filter) < 2 || filter[len(filter)-1] == 0 || filter[len(filter)-1] > 30 {
		return true
	}
	body, probes := filter[:len(filter)-1], int(filter[len(filter)-1])
	missing := 0
	for _, place := range placesPlainly(key, probes, uint64(len(body))*8) {
		if body[place/8]>>(place%8)%2 == 0 {
			missing++
		}
	}
	return missing == 0
}

// builds is a filter that must be made.
func builds(t testing.TB, keys []string, bits float64) []byte {
	t.Helper()
	filter, err := bloom.Build(keys, bits)
	if err != api.OK {
		t.Fatalf("Build(%d keys, %v): %d", len(keys), bits, err)
	}
	return filter
}

// buildsAs tells a fault if a filter is another than told.
func buildsAs(t testing.TB, keys []string, bits float64, want []byte) {
	t.Helper()
	if filter := builds(t, keys, bits); !bytes.Equal(filter, want) {
		t.Errorf("Build(%d keys %.60q, %v): % x, not % x", len(keys), keys, bits, filter, want)
	}
}

// refuses tells a fault if bits are not refused, or a filter stands beside the error.
func refuses(t testing.TB, keys []string, bits float64) {
	t.Helper()
	if filter, err := bloom.Build(keys, bits); err != api.ErrBloomBits || len(filter) != 0 {
		t.Errorf("Build(%d keys, %v): % x, %d", len(keys), bits, filter, err)
	}
}

// mays tells a fault if a filter tells otherwise of a key.
func mays(t testing.TB, filter []byte, key string, want bool) {
	t.Helper()
	if got := bloom.May(filter, key); got != want {
		t.Errorf("May(%d bytes % .40x, %.40q): %v, not %v", len(filter), filter, key, got, want)
	}
}

// bytesOf are the bytes that digits tell.
func bytesOf(t testing.TB, digits string) []byte {
	t.Helper()
	b, err := hex.DecodeString(strings.ReplaceAll(digits, " ", ""))
	if err != nil {
		t.Fatal(err)
	}
	return b
}

// The section "Errors": the number is api's.
func TestErrorNumber(t *testing.T) {
	if api.ErrBloomBits != 100 {
		t.Errorf("ErrBloomBits is %d", api.ErrBloomBits)
	}
	if _, err := bloom.Build(nil, 51); err != 100 {
		t.Errorf("Build answers %d", err)
	}
}

// The chapter's examples.
func TestExamples(t *testing.T) {
	if h := bloom.Hash(""); h != 0xBC9F1D34 {
		t.Errorf("Hash of no bytes: %X", h)
	}
	none := []byte{0, 0, 0, 0, 0, 0, 0, 0, 6}
	buildsAs(t, nil, 10, none)
	buildsAs(t, []string{}, 10, none)
	for _, bits := range []float64{math.NaN(), 50.5, 0} {
		refuses(t, []string{"a"}, bits)
	}
	for c := range 256 {
		mays(t, []byte{byte(c)}, "a", true)
	}
	mays(t, none, "a", false)
}
