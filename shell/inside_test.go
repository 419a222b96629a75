package shell

import "testing"

func TestDotted(t *testing.T) { // P2005: the path of a broken rule
	for _, c := range []struct {
		path []int
		want string
	}{{nil, "-"}, {[]int{}, "-"}, {[]int{0}, "0"}, {[]int{7}, "7"}, {[]int{1, 536870911, 3}, "1.536870911.3"}} {
		if got := dotted(c.path); got != c.want {
			t.Errorf("P2005: %v: %q, want %q", c.path, got, c.want)
		}
	}
}
