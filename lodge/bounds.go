package lodge

import "ravel/api"

// whole is what bounds are held of: counts are of one kind, tags and units of the other one.
type whole interface{ int | int64 }

// within tells whether a number is in its bounds, both of which may be.
func within[N whole](n, least, most N) bool { return n >= least && n <= most }

func mayBeSoMany(n int) bool { return within(n, 1, api.MaxTenants) }

func mayNotBe(t api.Tenant) bool {
	return !within(t.Weight, 1, api.MaxWeight) || !within(t.Quota, 0, api.MaxQuota) || !within(t.Live, 0, t.Quota) ||
		!within(t.Tag, 0, api.MaxTag) || !within(t.Ran, 0, api.MaxRan)
}
