package aescore_test

import (
	"testing"
)

// P5.1: the first and the last round keys of FIPS 197's examples (appendix A),
// and one between.
func TestKeysExamples(t *testing.T) {
	for _, c := range []struct {
		key, second, last string
		count             int
	}{
		{"2b7e151628aed2a6abf7158809cf4f3c",
			"a0fafe1788542cb123a339392a6c7605", "d014f9a8c9ee2589e13f0cc8b6630ca6", 11},
		{"8e73b0f7da0e6452c810f32b809079e562f8ead2522c6b7b",
			"62f8ead2522c6b7bfe0c91f72402f5a5", "e98ba06f448c773c8ecc720401002202", 13},
		{"603deb1015ca71be2b73aef0857d77811f352c073b6108d72d9810a30914dff4",
			"1f352c073b6108d72d9810a30914dff4", "fe4890d1e6188d0b046df344706c631e", 15},
	} {
		list := keysOf(t, newCipher(t, fromHex(t, c.key)).Keys(), c.key)
		if len(list) != c.count {
			t.Fatalf("%s: %d round keys, want %d", c.key, len(list), c.count)
		}
		same(t, list[0], fromHex(t, c.key[:32]), c.key, "first")
		same(t, list[1], fromHex(t, c.second), c.key, "second")
		same(t, list[c.count-1], fromHex(t, c.last), c.key, "last")
	}
}

// P5.1: the round keys of any keys, and of those that are all zeros or ones.
func TestKeys(t *testing.T) {
	for _, n := range keySizes {
		for i := range int64(60) {
			key := some(10+i, n)
			for j := range key {
				switch i {
				case 0:
					key[j] = 0
				case 1:
					key[j] = 0xff
				}
			}
			want := modelKeys(key)
			if len(want) != n/4+7 {
				t.Fatalf("%d round keys of the model", len(want))
			}
			sameKeys(t, keysOf(t, newCipher(t, key).Keys(), n, i), want, n, i)
		}
	}
}

// P0.7: the iterator can be left early, and taken up again starts anew.
func TestKeysLeft(t *testing.T) {
	for _, n := range keySizes {
		want := modelKeys(some(20, n))
		each := newCipher(t, some(20, n)).Keys()
		for stop := 1; stop <= len(want); stop++ {
			calls := 0
			each(func(i int, key []byte) bool {
				if i != calls {
					t.Fatalf("index %d where %d is due", i, calls)
				}
				same(t, key, want[i], n, stop, i)
				calls++
				return calls < stop
			})
			if calls != stop {
				t.Errorf("left behind %d round keys, it yields %d", stop, calls)
			}
			sameKeys(t, keysOf(t, each, n, stop), want, n, stop, "again")
		}
	}
}

// P0.7: the iterator can be nested, in itself and in another.
func TestKeysNested(t *testing.T) {
	for _, n := range keySizes {
		want := modelKeys(some(21, n))
		c := newCipher(t, some(21, n))
		each := c.Keys()
		outer := 0
		for i, key := range each {
			same(t, key, want[i], n, i)
			sameKeys(t, keysOf(t, each, n, i), want, n, i, "itself")
			for j, other := range c.Keys() {
				if same(t, other, want[j], n, i, j, "another"); j == 2 {
					break
				}
			}
			outer++
		}
		if outer != len(want) {
			t.Errorf("nested, it yields %d round keys, want %d", outer, len(want))
		}
	}
}

// P0.7: the iterator yields the round keys as they were at the call of Keys,
// even if another cipher is put where this one was.
func TestKeysState(t *testing.T) {
	for _, n := range keySizes {
		for _, m := range keySizes {
			c := newCipher(t, some(22, n))
			each := c.Keys()
			*c = *newCipher(t, some(23, m))
			sameKeys(t, keysOf(t, each, n, m), modelKeys(some(22, n)), n, m, "before")
			sameKeys(t, keysOf(t, c.Keys(), n, m), modelKeys(some(23, m)), n, m, "behind")
		}
	}
}

// P5.1: encryptions while the round keys are gone over.
func TestKeysBetween(t *testing.T) {
	c := newCipher(t, some(24, 32))
	b := some(25, 16)
	want := c.Encrypt(b)
	for i, key := range c.Keys() {
		same(t, c.Encrypt(b), want, i)
		same(t, c.Decrypt(want), b, i)
		same(t, key, modelKeys(some(24, 32))[i], i)
	}
}
