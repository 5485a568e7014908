package bloom

import (
	"hash/crc32"
	"math/big"
	"math/rand"
	"testing"

	"oxbow/api"
)

// modelPlaces: the chapter's words, in whole numbers of any size.
func modelPlaces(key string, probes, size int) []int {
	a := big.NewInt(int64(crc32.ChecksumIEEE([]byte(key))))
	b := big.NewInt(int64(crc32.ChecksumIEEE(append([]byte{'x'}, key...))))
	var l []int
	for i := range probes {
		n := new(big.Int).Mul(big.NewInt(int64(i)), b)
		n.Add(n, a)
		n.Mod(n, big.NewInt(int64(size)))
		l = append(l, int(n.Int64()))
	}
	return l
}

// modelNew: the filter whose set bits stand in a map.
func modelNew(bits int, keys []string) (string, map[int]bool) {
	n := max(64, bits*len(keys))
	for n%8 != 0 {
		n++
	}
	set := map[int]bool{}
	for _, key := range keys {
		for _, place := range modelPlaces(key, int(probes[bits-1]), n) {
			set[place] = true
		}
	}
	s := []byte{probes[bits-1]}
	for at := 0; at < n; at += 8 {
		b := 0
		for i := 7; i >= 0; i-- {
			b *= 2
			if set[at+i] {
				b++
			}
		}
		s = append(s, byte(b))
	}
	return string(s), set
}

// someKey: a short one, so that the same ones come again, or one of any bytes.
func someKey(r *rand.Rand) string {
	n := r.Intn(3)
	if r.Intn(2) == 0 {
		n = r.Intn(api.MaxKey + 1)
	}
	b := make([]byte, n)
	for i := range b {
		b[i] = byte(r.Intn(256))
	}
	return string(b)
}

func someKeys(r *rand.Rand) []string {
	keys := make([]string, r.Intn(40))
	for i := range keys {
		keys[i] = someKey(r)
	}
	return keys
}

func TestPlacesAsModel(t *testing.T) {
	r := rand.New(rand.NewSource(1))
	for range 20000 {
		key, probes, size := someKey(r), 1+r.Intn(8), 1+r.Intn(1<<(1+r.Intn(24)))
		wantPlaces(t, key, probes, size, modelPlaces(key, probes, size))
		if t.Failed() {
			return
		}
	}
}

func TestNewAsModel(t *testing.T) {
	r := rand.New(rand.NewSource(2))
	told, untold := 0, 0
	for range 2000 {
		bits, keys := 1+r.Intn(16), someKeys(r)
		want, set := modelNew(bits, keys)
		wantNew(t, bits, keys, want, api.OK)
		for _, key := range keys {
			wantHas(t, want, key, true)
		}
		for range 10 {
			key, has := someKey(r), true
			for _, place := range modelPlaces(key, int(want[0]), 8*(len(want)-1)) {
				has = has && set[place]
			}
			wantHas(t, want, key, has)
			if has {
				told++
			} else {
				untold++
			}
		}
		if t.Failed() {
			return
		}
	}
	if told < 1000 || untold < 1000 {
		t.Errorf("Has told %d keys and not %d: too few to tell anything", told, untold)
	}
}

// TestHasAsModel: of any bytes.
func TestHasAsModel(t *testing.T) {
	r := rand.New(rand.NewSource(3))
	told, untold := 0, 0
	for range 20000 {
		s := make([]byte, 2+r.Intn(40))
		for i := range s {
			s[i] = byte(r.Intn(256)) | byte(r.Intn(256))
		}
		s[0] = byte(1 + r.Intn(8))
		key, has := someKey(r), true
		for _, place := range modelPlaces(key, int(s[0]), 8*(len(s)-1)) {
			has = has && s[1+place/8]&(1<<(place%8)) != 0
		}
		wantHas(t, string(s), key, has)
		if t.Failed() {
			return
		}
		if has {
			told++
		} else {
			untold++
		}
	}
	if told < 1000 || untold < 1000 {
		t.Errorf("Has told %d keys and not %d: too few to tell anything", told, untold)
	}
}
