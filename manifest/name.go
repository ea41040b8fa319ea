package manifest

import (
	"strconv"
	"strings"

	"staddle/api"
)

// leastDigits is how many digits a name's number has at least.
const leastDigits = 6

// form is how the names of a kind are made.
type form struct {
	ahead, behind string
	numbered      bool
}

// forms are those of all kinds that have names.
func forms() map[int]form {
	return map[int]form{
		api.NLog:      {behind: ".log", numbered: true},
		api.NTable:    {behind: ".tab", numbered: true},
		api.NManifest: {ahead: "MANIFEST-", numbered: true},
		api.NCurrent:  {ahead: "CURRENT"},
		api.NTemp:     {ahead: "CURRENT.tmp"},
	}
}

// Name is a file's name, by its kind and number.
func Name(kind int, num uint64) string {
	// The form of a kind that is none lays no bytes.
	x := forms()[kind]
	if x.numbered && !mayNumber(num) {
		return ""
	}
	return x.name(num)
}

// Parse is a name's kind and number.
func Parse(name string) (kind int, num uint64) {
	// No two kinds make one name, so that the order in which they are asked does not matter.
	for kind, x := range forms() {
		// Held against what Name makes: that knows how many noughts there are, and which numbers may be.
		if num := x.number(name); name != "" && name == Name(kind, num) {
			return kind, num
		}
	}
	return api.NNone, 0
}

// mayNumber is whether a file may have a number.
func mayNumber(num uint64) bool {
	return num >= 1 && num <= api.MaxNum
}

// name is the name of a number that may be.
func (x form) name(num uint64) string {
	digits := ""
	if x.numbered {
		digits = strconv.FormatUint(num, 10)
		digits = strings.Repeat("0", max(0, leastDigits-len(digits))) + digits
	}
	return x.ahead + digits + x.behind
}

// number is the number that a name tells, if it is one of this form; what it is of others does not matter.
func (x form) number(name string) uint64 {
	if !x.numbered {
		return 0
	}
	num, _ := strconv.ParseUint(strings.TrimSuffix(strings.TrimPrefix(name, x.ahead), x.behind), 10, 64)
	return num
}
