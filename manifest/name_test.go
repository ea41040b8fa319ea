package manifest_test

import (
	"math"
	"math/rand"
	"strconv"
	"strings"
	"testing"

	"staddle/api"
	"staddle/manifest"
)

// parses tells a fault if Parse's answer is another one.
func parses(t *testing.T, name string, kind int, num uint64) {
	t.Helper()
	if k, n := manifest.Parse(name); k != kind || n != num {
		t.Errorf("Parse(%q): %d, %d; want %d, %d", name, k, n, kind, num)
	}
}

// isNone tells a fault if Parse takes a name.
func isNone(t *testing.T, name string) {
	t.Helper()
	parses(t, name, api.NNone, 0)
}

// digits are numbers' in names.
func digits() map[uint64]string {
	return map[uint64]string{
		1: "000001", 2: "000002", 9: "000009", 10: "000010", 99: "000099", 100: "000100", 12345: "012345", 99999: "099999",
		100000: "100000", 999999: "999999", 1000000: "1000000", 1234567: "1234567", 10000000: "10000000",
		1 << 32: "4294967296", topNum - 1: "1099511627775", topNum: "1099511627776",
	}
}

// wrongNums are numbers of no file.
func wrongNums() []uint64 {
	return []uint64{0, topNum + 1, topNum + 2, 1 << 41, 1 << 63, math.MaxUint64, math.MaxUint64 - 1}
}

// P15.1: names that have numbers, there and back.
func TestNumberedNames(t *testing.T) {
	for num, s := range digits() {
		for kind, want := range map[int]string{api.NLog: s + ".log", api.NTable: s + ".tab", api.NManifest: "MANIFEST-" + s} {
			if got := manifest.Name(kind, num); got != want {
				t.Errorf("Name(%d, %d): %q; want %q", kind, num, got, want)
			}
			parses(t, want, kind, num)
		}
	}
}

// P15.1: numbers of no file have no name, but where the number does not matter.
func TestWrongNumbers(t *testing.T) {
	for _, num := range wrongNums() {
		for _, kind := range []int{api.NLog, api.NTable, api.NManifest} {
			if got := manifest.Name(kind, num); got != "" {
				t.Errorf("Name(%d, %d): %q", kind, num, got)
			}
		}
	}
	for _, num := range append(wrongNums(), 1, 7, 999999, 1000000, topNum) {
		if a, b := manifest.Name(api.NCurrent, num), manifest.Name(api.NTemp, num); a != "CURRENT" || b != "CURRENT.tmp" {
			t.Errorf("%d: %q, %q", num, a, b)
		}
	}
	parses(t, "CURRENT", api.NCurrent, 0)
	parses(t, "CURRENT.tmp", api.NTemp, 0)
}

// P15.1: kinds that are none have no name.
func TestWrongKinds(t *testing.T) {
	for _, kind := range []int{api.NNone, -1, 6, 7, -3, 256 + api.NLog, 1<<32 + api.NLog, math.MinInt, math.MaxInt} {
		for _, num := range append(wrongNums(), 1, 7, topNum) {
			if got := manifest.Name(kind, num); got != "" {
				t.Errorf("Name(%d, %d): %q", kind, num, got)
			}
		}
	}
}

// P15.1: what is not just a number as Name writes it.
func TestWrongDigits(t *testing.T) {
	for _, s := range []string{
		"", "0", "7", "00000", "00007", "12345", "000000", "0000007", "0000000", "0123456", "0999999", "01000000", "001099511627776",
		"1099511627777", "1099511627780", "2199023255552", "9999999999999", "10995116277760", "10000000000000",
		"9223372036854775808", "18446744073709551615", "18446744073709551616", "18446744073709551623", "36893488147419103239",
		"99999999999999999999", strings.Repeat("9", 1000), strings.Repeat("0", 1000) + "7", "1" + strings.Repeat("0", 40),
		"+00007", "-00007", "+000007", "-000007", "--0007", " 000007", "000007 ", " 00007", "00007 ", "00 007", "\t00007", "00007\n", "000007\n", "\n000007",
		"00000a", "a00007", "000a07", "0x0007", "0X0007", "0b0001", "0o0007", "1e0000", "1E0005", "100_000", "1_00000", "000007.", "00007.", ".00007", "0.0007", "100,000",
		"00007\x00", "000007\x00", "\x00000007", "00000\xff", "٠٠٠٠٠٧", "00000７", "NaN", "Infinity", "ABCDEF", "abcdef", "x", "000007L", "'00007'",
	} {
		isNone(t, s)
		isNone(t, s+".log")
		isNone(t, s+".tab")
		isNone(t, "MANIFEST-"+s)
	}
}

// P15.1: names that have more or less than Name lays, or something else.
func TestWrongNames(t *testing.T) {
	for _, name := range []string{
		"", " ", ".", "..", "-", "x", ".log", ".tab", "log", "000007", "000007log", "000007.lo", "000007.LOG", "000007.logs", "000007.log.log", "000007.log.tab", "000007.tab.log",
		"000007..log", "000007.ta", "000007.TAB", "000007.table", "000007.tmp", "000007.", "000007.log ", " 000007.log", "000007.log\n", "\n000007.log", "000007.tab\x00", "./000007.log", "/000007.tab",
		"MANIFEST", "MANIFEST-", "MANIFEST000007", "manifest-000007", "Manifest-000007", "MANIFEST_000007", "MANIFEST--000007", "MANIFEST-000007-", "MANIFEST-000007\n", "MANIFEST-000007 ", " MANIFEST-000007",
		"MANIFEST-000007.log", "MANIFEST-000007.tab", "MANIFEST-000007.tmp", "MANIFEST-MANIFEST-000007", "xMANIFEST-000007", "MANIFES-000007", "MANIFEST-000007MANIFEST-", "000007MANIFEST-", "000007-MANIFEST",
		"current", "Current", "CURREN", "URRENT", "CURRENT ", " CURRENT", "CURRENT\n", "CURRENT.", "CURRENT.t", "CURRENT.tm", "CURRENT.tmp ", "CURRENT.tmp.tmp", "CURRENT.TMP", "CURRENT.temp", "CURRENTtmp", ".tmp", "xCURRENT", "xCURRENT.tmp",
		"CURRENT000007", "CURRENT-000007", "CURRENT000007.tmp", "000007CURRENT", "CURRENT.log", "CURRENT.tab", "MANIFEST-CURRENT", "CURRENTCURRENT", "\x00", "\xff\xfe", strings.Repeat("x", 100000), strings.Repeat("CURRENT", 1000),
	} {
		isNone(t, name)
	}
}

// nearby are names that are one byte off.
func nearby(name string) []string {
	var out []string
	for at := range len(name) + 1 {
		for _, b := range []string{"0", "1", "9", "-", "+", ".", " ", "\n", "\x00", "a", "M", "C", "l"} {
			out = append(out, name[:at]+b+name[at:])
			if at < len(name) {
				out = append(out, name[:at]+b+name[at+1:])
			}
		}
		if at < len(name) {
			out = append(out, name[:at]+name[at+1:])
		}
	}
	return out
}

// parsesPlainly is Parse as the document tells it: the kind and the number of which Name makes a name, by its digits.
func parsesPlainly(name string) (int, uint64) {
	for kind, around := range map[int][2]string{api.NLog: {"", ".log"}, api.NTable: {"", ".tab"}, api.NManifest: {"MANIFEST-", ""}, api.NCurrent: {"CURRENT", ""}, api.NTemp: {"CURRENT.tmp", ""}} {
		rest, ahead := strings.CutPrefix(name, around[0])
		rest, behind := strings.CutSuffix(rest, around[1])
		switch {
		case !ahead || !behind:
		case kind == api.NCurrent || kind == api.NTemp:
			if rest == "" {
				return kind, 0
			}
		case len(rest) < 6 || len(rest) > 13 || len(rest) > 6 && rest[0] == '0' || strings.Trim(rest, "0123456789") != "":
		default:
			if num, _ := strconv.Atoi(rest); num >= 1 && num <= topNum {
				return kind, uint64(num)
			}
		}
	}
	return api.NNone, 0
}

// P15.1: names that are one byte off, and what they are.
func TestNearbyNames(t *testing.T) {
	for _, name := range []string{"000007.log", "1000000.tab", "999999.log", "MANIFEST-000001", "MANIFEST-1099511627776", "109951162777.tab", "CURRENT", "CURRENT.tmp", "000000.log"} {
		for _, near := range nearby(name) {
			kind, num := parsesPlainly(near)
			parses(t, near, kind, num)
			if got := manifest.Name(kind, num); kind != api.NNone && got != near {
				t.Errorf("Name(%d, %d): %q; want %q", kind, num, got, near)
			}
		}
	}
}

// P15.1: numbers by chance, there and back; other names that they have in other kinds' forms.
func TestNamesByChance(t *testing.T) {
	r := rand.New(rand.NewSource(15))
	for range 20000 {
		num := uint64(r.Int63n(topNum))>>r.Intn(41) + 1
		kind := r.Intn(9) - 2
		name := manifest.Name(kind, num)
		if kind < api.NLog || kind > api.NTemp {
			if name != "" {
				t.Fatalf("Name(%d, %d): %q", kind, num, name)
			}
			continue
		}
		if kind == api.NCurrent || kind == api.NTemp {
			num = 0
		}
		parses(t, name, kind, num)
		isNone(t, name+string(rune('0'+r.Intn(10)))+" ")
		isNone(t, "0"+name)
	}
}
