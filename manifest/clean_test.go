package manifest

import (
	"fmt"
	"math"
	"slices"
	"strings"
	"testing"

	"oxbow/api"
	"oxbow/disk"
	"oxbow/version"
)

// others are names that Clean leaves, as they are of none of its kinds.
var others = []string{
	"current", "Current-next", "current-", "current-nex", "current-nexts", "currentnext", "next", "xcurrent-next",
	"manifest", "manifest-", "manifest-3", "manifest-0000009", "manifest-000000009", "manifest-100000000", "manifests-00000009", "Manifest-00000009", "manifest_00000009", "manifest-0000000x", "manifest-+0000009", "manifest-00000009.old",
	"log", "log-9", "log-000000009", "logs-00000009", "lo-00000009", "log--0000009", "log-00000009-",
	"table", "table-9", "tables-00000009", "able-00000009", "table-0000000 ", "table-0000009x", " table-00000009", "tablelog-00000009",
	"snap-00000009", "a-00000009", "00000009", "-00000009", "\x00", "\xff", strings.Repeat("n", 64),
}

// wantClean: Clean of a disk with these files is OK, leaves these and others, and lasts.
func wantClean(t *testing.T, what string, files []string, n int64, v version.Version, want ...string) {
	t.Helper()
	d := disk.New(1000)
	for _, name := range slices.Concat(files, others) {
		wantOK(t, d.Create(name))
	}
	wantOK(t, d.SyncDir())
	left := slices.Sorted(slices.Values(slices.Concat(want, others)))
	wantError(t, what, Clean(d, n, v), api.OK)
	wantList(t, what, d, left...)
	d.Crash(0)
	wantList(t, what+", behind a loss of power", d, left...)
}

// all: files of each kind, with numbers of every size.
func all() []string {
	l := []string{"current-next"}
	for _, kind := range []string{"manifest", "log", "table"} {
		for _, n := range []int64{0, 1, 2, 3, 4, 5, 6, 7, 9, 10, 33, 12345678, 99999998, 99999999} {
			l = append(l, nameOf(kind, n))
		}
	}
	return l
}

func TestClean(t *testing.T) {
	wantClean(t, "P16.3", all(), 3, few(t), "log-00000002", "manifest-00000003", "table-00000003", "table-00000004", "table-00000005")
	wantClean(t, "P16.3: the none version", all(), 0, version.Version{}, "log-00000000", "manifest-00000000")
	wantClean(t, "P16.3: great numbers", all(), 99999999, made(t, version.Edit{Add: []version.Place{table(3, 99999998, "a", "b"), table(0, 12345678, "a", "b")}, Log: 99999999, Next: 1 << 40}),
		"log-99999999", "manifest-99999999", "table-12345678", "table-99999998")
	wantClean(t, "P16.3: a kind's number isn't another kind's", all(), 7, made(t, version.Edit{Add: []version.Place{table(1, 9, "a", "b")}, Log: 10, Next: 11}),
		"log-00000010", "manifest-00000007", "table-00000009")
	// Tables of each level are needed.
	v := made(t, version.Edit{Add: []version.Place{table(0, 10, "a", "b"), table(0, 7, "a", "b"), table(1, 2, "a", "b"), table(1, 1, "x", "y"), table(2, 33, "a", "b"), table(3, 0, "a", "b")}, Log: 1, Next: 40})
	wantClean(t, "P16.3: tables of each level", all(), 1, v, "log-00000001", "manifest-00000001", "table-00000000", "table-00000001", "table-00000002", "table-00000007", "table-00000010", "table-00000033")
}

// TestCleanOfFew: what is needed and isn't there doesn't matter.
func TestCleanOfFew(t *testing.T) {
	wantClean(t, "P16.3: nothing that is needed is there", []string{"log-00000003", "table-00000002", "manifest-00000004", "current-next"}, 3, few(t))
	for _, name := range all()[:15] {
		want := []string{}
		if name == "manifest-00000003" {
			want = append(want, name)
		}
		wantClean(t, "P16.3: "+name+" alone", []string{name}, 3, few(t), want...)
	}
}

// TestCleanOfNoName: a number that no file has stands for none: nothing of that kind is left.
func TestCleanOfNoName(t *testing.T) {
	for _, n := range noNumbers {
		v := version.Version{Log: n}
		v.Levels[1] = []version.Meta{{File: n}, {File: 3}, {File: -n}}
		wantClean(t, fmt.Sprintf("P16.3: of the number %d", n), []string{"manifest-00000000", "manifest-00000001", "manifest-99999999", "log-00000000", "log-00000002", "log-99999999", "table-00000003", "table-00000004"}, n, v, "table-00000003")
	}
}

// TestNothingToRemove: no call of the disk is made that changes: no names last by it.
func TestNothingToRemove(t *testing.T) {
	for what, d := range map[string]*disk.Disk{"an empty disk": disk.New(0), "what is needed": elder(t), "others": disk.New(0)} {
		if what == "others" {
			for _, name := range others {
				wantOK(t, d.Create(name))
			}
		}
		l := d.List()
		wantOK(t, d.SyncDir(), d.Create("new"))
		d.Break(1)
		wantError(t, "P16.3: of "+what, Clean(d, 3, grown(t)), api.OK)
		wantUntouched(t, "P16.3: of "+what, d)
		d.Crash(0)
		wantList(t, "P16.3: of "+what, d, l...)
	}
}

// TestCleanOfNoDisk: where List tells nothing that is to be removed, no call is made that could be refused.
func TestCleanOfNoDisk(t *testing.T) {
	for _, n := range []int64{3, -1, math.MinInt64} {
		wantError(t, "P16.3: a nil disk", Clean(nil, n, few(t)), api.OK)
		wantError(t, "P16.3: an empty disk without power", Clean(off(t, disk.New(0)), n, few(t)), api.OK)
	}
	wantError(t, "P16.3: without power, nothing to remove", Clean(off(t, elder(t)), 3, grown(t)), api.OK)
	wantError(t, "P16.3: without power, one to remove", Clean(off(t, elder(t)), 4, grown(t)), api.ErrPower)
	d := off(t, littered(t))
	wantError(t, "P16.3: without power, some to remove", Clean(d, 3, grown(t)), api.ErrPower)
	d.On()
	wantList(t, "P16.3", d, littered(t).List()...)
}

// TestCleanInOrder: the names are gone through in List's order, up to the first that is refused.
func TestCleanInOrder(t *testing.T) {
	needless := []string{"current-next", "log-00000002", "manifest-00000002", "table-00000003", "table-00000007"}
	for at := range len(needless) + 1 {
		d := littered(t)
		names := d.List()
		d.Break(at + 1)
		what := fmt.Sprintf("P16.3: the call %d is refused", at+1)
		wantError(t, what, Clean(d, 3, grown(t)), api.ErrFull)
		left := slices.DeleteFunc(slices.Clone(names), func(s string) bool { return slices.Contains(needless[:at], s) })
		wantList(t, what, d, left...)
		wantError(t, what+": once more", Clean(d, 3, grown(t)), api.OK)
		left = slices.DeleteFunc(names, func(s string) bool { return slices.Contains(needless, s) })
		wantList(t, what+", and done once more", d, left...)
		d.Crash(0)
		if at < len(needless) {
			wantList(t, what+", done once more, and a loss of power", d, left...)
		}
	}
}

// TestCleanOfMany: as many files as a disk has.
func TestCleanOfMany(t *testing.T) {
	d, e := disk.New(0), version.Edit{Log: 1, Next: 1 << 20}
	var want []string
	for i := range int64(api.MaxFiles) {
		wantOK(t, d.Create(nameOf("table", 3*i)))
		if i%5 == 0 {
			e.Add = append(e.Add, table(0, 3*i, "a", "b"), table(0, 3*i+1, "a", "b"))
			want = append(want, nameOf("table", 3*i))
		}
	}
	wantError(t, "P16.3", Clean(d, 3, made(t, e)), api.OK)
	wantList(t, "P16.3", d, want...)
}

// TestCleanLeavesBytes: what is needed stays as it is, also where it doesn't last yet, and its bytes don't last by it.
func TestCleanLeavesBytes(t *testing.T) {
	d := littered(t)
	wantOK(t, d.Append("table-00000004", "more"), d.Append("other", "more"))
	wantError(t, "P16.3", Clean(d, 3, grown(t)), api.OK)
	wantBytes(t, "P16.3", d, "table-00000004", "table-00000004more")
	wantLoad(t, "P16.3", d, grown(t), 3, api.OK)
	d.Crash(0)
	wantBytes(t, "P16.3", d, "table-00000004", "table-00000004")
	wantBytes(t, "P16.3", d, "other", "other")
	wantBytes(t, "P16.3", d, "log-00000007", "log-00000007")
}
