package ops_test

import (
	"math"
	"slices"
	"strings"
	"testing"

	"kraal/api"
	"kraal/ops"
)

// TestP21_1Names: all names, each with its kind's constant.
func TestP21_1Names(t *testing.T) {
	for _, c := range []struct {
		kind int
		name string
	}{
		{api.OpRegion, "region"}, {api.OpSub, "sub"}, {api.OpDelete, "delete"}, {api.OpNew, "new"}, {api.OpArray, "array"},
		{api.OpSet, "set"}, {api.OpGet, "get"}, {api.OpGlobal, "global"}, {api.OpLook, "look"}, {api.OpPush, "push"},
		{api.OpPop, "pop"}, {api.OpSlot, "slot"}, {api.OpPeek, "peek"}, {api.OpCount, "count"}, {api.OpFree, "free"},
	} {
		if got := ops.Name(c.kind); got != c.name {
			t.Errorf("Name(%d): got %q, want %q", c.kind, got, c.name)
		}
		if got, ok := ops.Kind(c.name); got != c.kind || !ok {
			t.Errorf("Kind(%q): got %d, %v, want %d", c.name, got, ok, c.kind)
		}
	}
}

// TestP21_1NamesInOrder: from 1 to 15 the kinds have the names that the chapter lists; no other one has a name.
func TestP21_1NamesInOrder(t *testing.T) {
	if len(inOrder) != 15 {
		t.Fatal("the list isn't the chapter's")
	}
	for i, name := range inOrder {
		if got := ops.Name(i + 1); got != name {
			t.Errorf("Name(%d): got %q, want %q", i+1, got, name)
		}
	}
	for kind := -1000; kind <= 1000; kind++ {
		if got := ops.Name(kind); (got != "") != (kind >= 1 && kind <= 15) {
			t.Errorf("Name(%d): got %q", kind, got)
		}
	}
	for _, kind := range append(slices.Clone(wrong), 0, 16, 17, 255) {
		if got := ops.Name(kind); got != "" {
			t.Errorf("Name(%d): got %q", kind, got)
		}
	}
}

// TestP21_1NamesThereAndBack: Kind of what Name answers is the kind, Name of what Kind answers the name.
func TestP21_1NamesThereAndBack(t *testing.T) {
	for kind := 1; kind <= 15; kind++ {
		if got, ok := ops.Kind(ops.Name(kind)); got != kind || !ok {
			t.Errorf("Kind(Name(%d)): got %d, %v", kind, got, ok)
		}
	}
	for _, name := range inOrder {
		kind, _ := ops.Kind(name)
		if got := ops.Name(kind); got != name {
			t.Errorf("Name(Kind(%q)): got %q", name, got)
		}
	}
	for _, kind := range []int{-1, 0, 16, 255, math.MinInt, math.MaxInt} {
		noName(t, ops.Name(kind))
	}
}

// TestP21_1NoNames: whatever is near a name, and isn't one, has no kind.
func TestP21_1NoNames(t *testing.T) {
	noName(t, "")
	for _, name := range inOrder {
		noName(t, strings.ToUpper(name))
		noName(t, strings.ToUpper(name[:1])+name[1:])
		noName(t, name[:len(name)-1])
		noName(t, name[1:])
		noName(t, name+name)
		noName(t, name+"s")
		for _, other := range inOrder {
			noName(t, name+other)
			noName(t, name+" "+other)
			noName(t, name+"\n"+other)
		}
		for cut := range len(name) + 1 {
			wantKind(t, name[:cut])
			wantKind(t, name[cut:])
		}
	}
	for _, name := range []string{
		"x", "Count", "operation", "regions", "object", "objects", "begin", "held", "audit", "rows", "subregion", "globals", "pages",
		"OpRegion", "opfree", "0", "1", "15", "-1", "nil", "fr\u00e9e", "\u017fub", "\u017fet", "loo\u212a", "\ufeffset", "s\u0435t",
		"ｓｅｔ", "\x00", "\xff", "\xff\xfe", "set\x00", "\x00set", "region\xc0", strings.Repeat("region", 1000), strings.Repeat("\x00", 5000),
	} {
		noName(t, name)
	}
}

// TestP21_1NoNamesByOneByte: a byte put in, taken out or made another one, at any place of a name: what comes of it has a kind just if it is a name.
func TestP21_1NoNamesByOneByte(t *testing.T) {
	for _, name := range inOrder {
		for at := range len(name) + 1 {
			for value := range 256 {
				one := string([]byte{byte(value)})
				wantKind(t, name[:at]+one+name[at:])
				if at < len(name) {
					wantKind(t, name[:at]+one+name[at+1:])
				}
			}
			if at < len(name) {
				wantKind(t, name[:at]+name[at+1:])
			}
		}
	}
}

// TestP21_1EveryShortName: all texts of up to three small letters, and all of one byte and of two.
func TestP21_1EveryShortName(t *testing.T) {
	names := []string{""}
	for range 3 {
		var longer []string
		for _, name := range names {
			for letter := byte('a'); letter <= 'z'; letter++ {
				longer = append(longer, name+string(letter))
			}
		}
		for _, name := range longer {
			wantKind(t, name)
		}
		names = longer
	}
	for value := range 1 << 16 {
		noName(t, string([]byte{byte(value)}))
		noName(t, string([]byte{byte(value >> 8), byte(value)}))
	}
}
