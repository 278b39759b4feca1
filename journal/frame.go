package journal

import (
	"strconv"

	"dowel/api"
)

// overhead is how many bytes of a frame stand before the record: its length and its check.
const overhead = 8

// Check returns the check of some bytes.
func Check(s string) int {
	const modulus = 65521
	a, b := 1, 0
	for i := range len(s) {
		a = (a + int(s[i])) % modulus
		b = (b + a) % modulus
	}
	return b*65536 + a
}

// word returns four bytes, the most significant one first.
func word(n int) string {
	return string([]byte{byte(n >> 24), byte(n >> 16), byte(n >> 8), byte(n)})
}

// number returns the number of four bytes.
func number(s string) int {
	return int(s[0])<<24 | int(s[1])<<16 | int(s[2])<<8 | int(s[3])
}

// Frame returns the frame of a record.
func Frame(record string) (string, api.Errno) {
	if len(record) > MaxRecord {
		return "", api.ErrLong
	}
	return word(len(record)) + word(Check(record)) + record, api.OK
}

// head returns the head of the bytes of a journal.
func head(first int) string {
	frame, _ := Frame(strconv.Itoa(first))
	return frame
}

// unframe returns the record with which some bytes begin, if they begin with a frame.
func unframe(data string) (record string, ok bool) {
	if len(data) < overhead {
		return "", false
	}
	length := number(data)
	if length > MaxRecord || len(data) < overhead+length {
		return "", false
	}
	record = data[overhead : overhead+length]
	if number(data[4:]) != Check(record) {
		return "", false
	}
	return record, true
}

// Scan returns the first number, the records, and the length of what is right of some bytes.
func Scan(data string) (first int, records []string, length int) {
	digits, ok := unframe(data)
	if !ok {
		return 1, nil, 0
	}
	first, ok = firstNumber(digits)
	if !ok {
		return 1, nil, 0
	}
	length = overhead + len(digits)
	for {
		record, ok := unframe(data[length:])
		if !ok {
			return first, records, length
		}
		records = append(records, record)
		length += overhead + len(record)
	}
}

// firstNumber returns the number with decimal digits, if it can be that of a first record.
func firstNumber(digits string) (int, bool) {
	n, err := strconv.Atoi(digits)
	if err != nil || strconv.Itoa(n) != digits || n < 1 || n > MaxFirst {
		return 0, false
	}
	return n, true
}
