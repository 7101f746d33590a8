package product

// CheckDigit returns the check digit of 7 or 12 digits.
func CheckDigit(digits string) (int, bool) {
	if len(digits) != 7 && len(digits) != 12 {
		return 0, false
	}
	// Both lengths count their weights from the last digit, which has 3.
	sum, weight := 0, 3
	for i := len(digits) - 1; i >= 0; i-- {
		if !isDigit(digits[i]) {
			return 0, false
		}
		sum += weight * int(digits[i]-'0')
		weight = 4 - weight
	}
	return (10 - sum%10) % 10, true
}

// ValidID reports whether id is a GTIN of 8 or 13 digits.
func ValidID(id string) bool {
	if id == "" {
		return false
	}
	last := len(id) - 1
	digit, ok := CheckDigit(id[:last])
	return ok && id[last] == byte('0'+digit)
}

// isDigit reports whether a byte is a decimal digit.
func isDigit(b byte) bool {
	return b >= '0' && b <= '9'
}
