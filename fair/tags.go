package fair

import (
	"cmp"
	"slices"

	"ravel/api"
	"ravel/lodge"
)

// byTag hands out a closure that holds two places against each other by the tags that tenants have there. The same tags it tells to be the same, as slices.MinFunc then keeps to the first one.
func byTag(l []api.Tenant) func(i, k int) int {
	return func(i, k int) int { return cmp.Compare(l[i].Tag, l[k].Tag) }
}

// those are the places of the busy ones, in order.
func those(busy []bool) []int {
	var who []int
	for i, is := range busy {
		if is {
			who = append(who, i)
		}
	}
	return who
}

// move moves a tenant's tag by what units cost it, one way or the other, or refuses where it goes out of its bounds.
func move(l []api.Tenant, i int, units int64, how func(a, b int64) (int64, api.Errno), refused api.Errno) ([]api.Tenant, api.Errno) {
	if e := areThere(l, i); e != api.OK {
		return nil, e
	}
	cost, e := Cost(l[i].Weight, units)
	switch e {
	case api.ErrArg:
		return nil, e
	case api.ErrLarge:
		// What costs more than the greatest tag takes each tag out of its bounds, upwards as well as downwards.
		return nil, refused
	}
	tag, e := how(l[i].Tag, cost)
	if e != api.OK || tag < 0 || tag > api.MaxTag {
		return nil, refused
	}
	return tagged(l, i, tag), api.OK
}

// tagged are new tenants, one of whom has another tag.
func tagged(l []api.Tenant, i int, tag int64) []api.Tenant {
	l = slices.Clone(l)
	l[i].Tag = tag
	return l
}

// fit tells whether tenants may be, and busy has one for each of them.
func fit(l []api.Tenant, busy []bool) api.Errno {
	if lodge.Check(l) != api.OK || len(busy) != len(l) {
		return api.ErrArg
	}
	return api.OK
}

// areThere tells whether tenants may be, and each place is one of theirs.
func areThere(l []api.Tenant, places ...int) api.Errno {
	if e := lodge.Check(l); e != api.OK {
		return e
	}
	for _, i := range places {
		if i < 0 || i >= len(l) {
			return api.ErrNone
		}
	}
	return api.OK
}
