package impl

import (
	"strconv"
	"strings"
)

const (
	MaxInt = 999999999
	MaxHex = 2000
)

const hexDigits = "0123456789abcdef"

func FormatInt(n int) string { return strconv.Itoa(n) }

func ParseInt(s string) (int, bool) {
	n, sign := 0, 1
	for i, c := range s {
		if i == 0 && c == '-' {
			sign = -1
			continue
		}
		d, ok := digitValue(c, 10)
		if !ok {
			return 0, false
		}
		n = 10*n + d
		// Stopping at the first excess keeps n from ever overflowing.
		if n > MaxInt {
			return 0, false
		}
	}
	n *= sign
	// Only the text that FormatInt makes is read: no leading zeros, no -0, not the empty string.
	if FormatInt(n) != s {
		return 0, false
	}
	return n, true
}

// digitValue takes small letters alone, since FormatHex writes no capital ones.
func digitValue(c rune, base int) (int, bool) {
	d := base
	if c >= '0' && c <= '9' {
		d = int(c - '0')
	} else if c >= 'a' && c <= 'z' {
		d = int(c-'a') + 10
	}
	if d >= base {
		return 0, false
	}
	return d, true
}

// SplitText looks at bytes and not at runes, because by may be a byte within a rune or of none.
func SplitText(s string, by byte) []string {
	var parts []string
	start := 0
	for i := range len(s) {
		if s[i] == by {
			parts = append(parts, s[start:i])
			start = i + 1
		}
	}
	return append(parts, s[start:])
}

func JoinText(l []string, by string) string { return joinParts(by, l...) }

func joinParts(by string, parts ...string) string {
	var out strings.Builder
	for i, part := range parts {
		if i > 0 {
			out.WriteString(by)
		}
		out.WriteString(part)
	}
	return out.String()
}

func FormatHex(b []byte) string {
	if len(b) > MaxHex {
		return ""
	}
	out := make([]byte, 0, 2*len(b))
	for _, x := range b {
		out = append(out, hexDigits[x>>4], hexDigits[x&15])
	}
	return string(out)
}

func ParseHex(s string) ([]byte, bool) {
	if len(s)%2 != 0 || len(s) > 2*MaxHex {
		return nil, false
	}
	out := make([]byte, 0, len(s)/2)
	high := 0
	for i, c := range s {
		d, ok := digitValue(c, 16)
		if !ok {
			return nil, false
		}
		if i%2 == 0 {
			high = d
		} else {
			out = append(out, byte(16*high+d))
		}
	}
	return out, true
}
