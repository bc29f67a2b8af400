package world

import (
	"slices"

	"simproof/api"
	"simproof/compile"
)

// The largest numbers of crashes, drops and duplications of a node, and the furthest jump of its clock.
const (
	maxFaults = 10
	maxDrift  = 3
)

// isValid reports whether a configuration is valid.
func isValid(c api.Config) bool {
	return isUpTo(len(c.First)-1, api.MaxNodes-1) &&
		isUpTo(len(c.Programs)-1, api.MaxVersions-1) &&
		all(c.Programs, func(p api.Program) bool { return compile.Verify(p) == api.OK }) &&
		all(slices.Concat(c.First, c.Restarts), func(v int) bool { return isUpTo(v, len(c.Programs)-1) }) &&
		len(c.Requests) <= api.MaxRequests &&
		all(c.Requests, func(r api.Request) bool { return isRequest(r, len(c.First)) }) &&
		all([]int{c.Crashes, c.Drops, c.Dups}, func(n int) bool { return isUpTo(n, maxFaults) }) &&
		isUpTo(c.Drift, maxDrift)
}

// isRequest reports whether a request is valid for so many nodes.
func isRequest(r api.Request, nodes int) bool {
	return isUpTo(r.Node, nodes-1) && all([]int{r.Op, r.Key, r.Arg}, func(n int) bool { return n >= -api.MaxValue && n <= api.MaxValue })
}

// isUpTo reports whether a number is from 0 to the greatest one.
func isUpTo(n, greatest int) bool { return n >= 0 && n <= greatest }

// all reports whether all elements of a list are as they should be.
func all[T any](l []T, good func(T) bool) bool {
	return !slices.ContainsFunc(l, func(x T) bool { return !good(x) })
}

// copyOf returns a copy of a configuration.
func copyOf(c api.Config) api.Config {
	c.Programs = copied(c.Programs)
	for i := range c.Programs {
		c.Programs[i].Code = copied(c.Programs[i].Code)
	}
	c.First, c.Restarts, c.Requests = copied(c.First), copied(c.Restarts), copied(c.Requests)
	return c
}

// requestsOf returns the indices of a node's requests.
func requestsOf(requests []api.Request, n int) []int {
	var l []int
	for i, r := range requests {
		if r.Node == n {
			l = append(l, i)
		}
	}
	return l
}
