package octet_test

import (
	"runtime/debug"
	"strings"
	"syscall"
	"testing"
	"unsafe"

	"timeball/octet"
)

// guarded tells a text of so many bytes "x" whose last byte alone can't be read: looking at it is a fault.
func guarded(t *testing.T, bytes int) string {
	t.Helper()
	page := syscall.Getpagesize()
	memory, err := syscall.Mmap(-1, 0, 2*page, syscall.PROT_READ|syscall.PROT_WRITE, syscall.MAP_ANON|syscall.MAP_PRIVATE)
	if err != nil {
		t.Fatal("no memory to guard: ", err)
	}
	t.Cleanup(func() { _ = syscall.Munmap(memory) })
	copy(memory, strings.Repeat("x", 2*page))
	if err := syscall.Mprotect(memory[page:], syscall.PROT_NONE); err != nil {
		t.Fatal("memory can't be guarded: ", err)
	}
	return unsafe.String(&memory[page+1-bytes], bytes)
}

// answer keeps what Same says, for a call whose answer nobody wants may be left out.
var answer bool

// looksAtLast tells whether Same looks at the byte that can't be read.
func looksAtLast(a, b string) (looked bool) {
	defer debug.SetPanicOnFault(debug.SetPanicOnFault(true))
	defer func() { looked = recover() != nil }()
	answer = octet.Same(a, b)
	return
}

// TestSameLooksAtAllBytes is P1.2: where the first byte tells already that texts are unlike, or their lengths do, the last one of the shorter is looked at nevertheless.
func TestSameLooksAtAllBytes(t *testing.T) {
	for _, bytes := range []int{1, 2, 7, 8, 9, 16, 33, 100} {
		secret := guarded(t, bytes)
		like := strings.Repeat("x", bytes)
		for name, other := range map[string]string{
			"itself":             secret,
			"like":               like,
			"unlike first":       "y" + like[1:],
			"unlike":             strings.Repeat("y", bytes),
			"longer":             like + "x",
			"longer and unlike":  "y" + like,
			"much longer":        strings.Repeat("x", 10*bytes),
			"longer, wholly not": strings.Repeat("y", bytes+1),
		} {
			if !looksAtLast(secret, other) || !looksAtLast(other, secret) {
				t.Errorf("%d bytes, %s: the last byte isn't looked at", bytes, name)
			}
		}
	}
}
