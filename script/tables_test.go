package script_test

import (
	"fmt"
	"strings"
	"testing"
)

// Names and budgets.

func TestNames(t *testing.T) {
	for tag, name := range strings.Fields("abs arg conj proj mul div sqrt exp log sin cos tan sinh cosh tanh asin acos atan asinh acosh atanh") {
		answers(t, fmt.Sprint("name ", tag), name)
	}
	for _, tag := range []int{21, 22, 30, 99, 100, 128, 256, 4096, 65536, 99999, 100000, 100001, -1} {
		isWrong(t, fmt.Sprint("name ", tag))
	}
	for _, line := range []string{"name", "name ", "name 6 7", "name 6 6", "name 21 0", "name x", "name sqrt", "name 0x6", "name 06", "name 6 x", "name 6 #", "name -", "name 0000000000000006"} {
		isWrong(t, line)
	}
}

func TestBudgets(t *testing.T) {
	for n, want := range map[int]string{
		0: "none", 1: "none", 64: "none", 127: "none", 128: "128", 129: "128 129", 255: "128 255", 256: "128 256", 257: "128 256 257",
		500: "128 256 500", 512: "128 256 512", 513: "128 256 512 513", 1000: "128 256 512 1000", 2048: "128 256 512 1024 2048",
		2049: "128 256 512 1024 2048 2049", 4095: "128 256 512 1024 2048 4095", 4096: "128 256 512 1024 2048 4096", 4097: "none", 8192: "none", 65536: "none", 100000: "none",
	} {
		answers(t, fmt.Sprint("budgets ", n), want)
	}
	for _, line := range []string{"budgets", "budgets ", "budgets 128 128", "budgets 500 0", "budgets x", "budgets none", "budgets 100001", "budgets -1", "budgets 0128", "budgets 128.", "budgets 128 #", "budgets 0 0"} {
		isWrong(t, line)
	}
}
