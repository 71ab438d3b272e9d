package aescore_test

import (
	"slices"
	"sync"
	"testing"

	"bailey/aescore"
)

// withRoom is b with spare capacity, in which no call may write.
func withRoom(b []byte) []byte {
	room := append(append(make([]byte, 0, len(b)+100), b...), make([]byte, 100)...)
	return room[:len(b)]
}

// spoil writes over a slice and its spare capacity.
func spoil(b []byte) {
	b = b[:cap(b)]
	for i := range b {
		b[i] ^= 0xa5
	}
}

// untouched calls do with arguments that have spare capacity, and fails the
// test if it changes them, if two of its results are not the same, if they
// share memory with each other or the arguments, or if their spare capacity
// shows anything.
func untouched(t *testing.T, do func(args [][]byte) []byte, list ...[]byte) {
	t.Helper()
	var args, kept [][]byte
	for _, b := range list {
		b = withRoom(b)
		args = append(args, b)
		kept = append(kept, slices.Clone(b[:cap(b)]))
	}
	check := func(what string) {
		t.Helper()
		for i, b := range args {
			same(t, b[:cap(b)], kept[i], "argument", i, what)
		}
	}
	got, other := do(args), do(args)
	check("changed by the call")
	want := slices.Clone(got)
	same(t, other, want, "again")
	for _, x := range got[len(got):cap(got)] {
		if x != 0 {
			t.Fatalf("behind the result lies %x", got[len(got):cap(got)])
		}
	}
	spoil(got)
	check("changed with a result")
	same(t, other, want, "changed with another result")
	for _, b := range args {
		spoil(b)
	}
	same(t, other, want, "changed with an argument")
}

// P0.3 and P5.3: the arguments stay as they are, and the results are new
// memory.
func TestMemory(t *testing.T) {
	for _, n := range keySizes {
		c := newCipher(t, some(90, n))
		untouched(t, func(args [][]byte) []byte { return c.Encrypt(args[0]) }, some(91, 16))
		untouched(t, func(args [][]byte) []byte { return c.Decrypt(args[0]) }, some(91, 16))
		untouched(t, func(args [][]byte) []byte { return aescore.New(args[0]).Encrypt(args[1]) }, some(90, n), some(91, 16))
	}
	untouched(t, func(args [][]byte) []byte { return aescore.Times(args[0], args[1]) }, some(92, 16), some(93, 16))
	untouched(t, func(args [][]byte) []byte { return aescore.Times(args[0], args[0]) }, some(92, 16))
	for _, x := range [][]byte{make([]byte, 16), bit(0)} {
		untouched(t, func(args [][]byte) []byte { return aescore.Times(args[0], args[1]) }, some(92, 16), x)
		untouched(t, func(args [][]byte) []byte { return aescore.Times(args[0], args[1]) }, x, some(92, 16))
	}
	for n := range 70 {
		untouched(t, func(args [][]byte) []byte { return aescore.GHASH(args[0], args[1]) }, some(94, 16), some(95, n))
	}
	untouched(t, func(args [][]byte) []byte { return aescore.GHASH(args[0], args[0]) }, some(94, 16))
}

// P0.3: bytes in the spare capacity of what GHASH is given are not read.
func TestGHASHRoom(t *testing.T) {
	all := some(96, 100)
	for n := range 70 {
		same(t, aescore.GHASH(all[:16], all[:n]), modelGHASH(all[:16], all[:n]), n)
	}
}

// P0.3 and P0.5: the caller may change the key that it handed in.
func TestKeyMemory(t *testing.T) {
	for _, n := range keySizes {
		key := withRoom(some(97, n))
		kept := slices.Clone(key[:cap(key)])
		c := newCipher(t, key)
		same(t, key[:cap(key)], kept, n, "changed by New")
		each := c.Keys()
		want := c.Encrypt(some(98, 16))
		spoil(key)
		same(t, c.Encrypt(some(98, 16)), want, n)
		same(t, c.Decrypt(want), some(98, 16), n)
		sameKeys(t, keysOf(t, each, n), modelKeys(some(97, n)), n)
		sameKeys(t, keysOf(t, c.Keys(), n), modelKeys(some(97, n)), n)
	}
}

// P0.3 and P0.5: the caller may change the round keys that it was handed, which
// share no memory with each other.
func TestRoundKeyMemory(t *testing.T) {
	for _, n := range keySizes {
		c := newCipher(t, some(99, n))
		want := modelKeys(some(99, n))
		each := c.Keys()
		secret := c.Encrypt(some(98, 16))
		for i, key := range each {
			same(t, key, want[i], n, i, "as the others are changed")
			spoil(key)
			same(t, c.Encrypt(some(98, 16)), secret, n, i)
		}
		list := keysOf(t, each, n)
		sameKeys(t, list, want, n, "again")
		for i, key := range list {
			spoil(key)
			sameKeys(t, list[i+1:], want[i+1:], n, i, "the later ones")
		}
		sameKeys(t, keysOf(t, each, n), want, n, "the iterator")
		sameKeys(t, keysOf(t, c.Keys(), n), want, n, "another iterator")
		same(t, c.Encrypt(some(98, 16)), secret, n, "Encrypt")
		same(t, c.Decrypt(secret), some(98, 16), n, "Decrypt")
	}
}

// P0.5: two ciphers are independent, of the same key and of others.
func TestTwo(t *testing.T) {
	b := some(100, 16)
	for _, n := range keySizes {
		for _, m := range keySizes {
			first := newCipher(t, some(101, n))
			want := first.Encrypt(b)
			second, third := newCipher(t, some(102, m)), newCipher(t, some(101, n))
			other := second.Encrypt(b)
			each := first.Keys()
			for _, c := range []*aescore.Cipher{second, third} {
				for _, key := range c.Keys() {
					spoil(key)
				}
			}
			same(t, first.Encrypt(b), want, n, m)
			*third = aescore.Cipher{}
			same(t, first.Encrypt(b), want, n, m, "behind")
			same(t, first.Decrypt(want), b, n, m, "behind")
			same(t, second.Encrypt(b), other, n, m, "second")
			sameKeys(t, keysOf(t, each, n, m), modelKeys(some(101, n)), n, m)
		}
	}
}

// P0.5: a copy of a cipher's value stands by itself.
func TestCopy(t *testing.T) {
	c := newCipher(t, some(103, 24))
	want := c.Encrypt(some(98, 16))
	other := *c
	*c = *newCipher(t, some(104, 24))
	same(t, other.Encrypt(some(98, 16)), want)
	same(t, other.Decrypt(want), some(98, 16))
	sameKeys(t, keysOf(t, other.Keys()), modelKeys(some(103, 24)))
}

// P0.5: ciphers that are used at the same time do not touch each other.
func TestSameTime(t *testing.T) {
	got := make([][]byte, 16)
	var wait sync.WaitGroup
	for i := range got {
		wait.Go(func() {
			c := aescore.New(some(int64(i%4), keySizes[i%3]))
			b := some(98, 16)
			for range 200 {
				b = c.Encrypt(b)
			}
			got[i] = aescore.GHASH(b, c.Decrypt(b))
		})
	}
	wait.Wait()
	for i, b := range got {
		c := newCipher(t, some(int64(i%4), keySizes[i%3]))
		want := some(98, 16)
		for range 200 {
			want = c.Encrypt(want)
		}
		same(t, b, modelGHASH(want, c.Decrypt(want)), i)
	}
}
