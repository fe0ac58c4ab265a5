package config

import (
	"slices"

	"pitot/api"
)

// Limits of a network.
const (
	mostHosts    = 64
	mostParts    = 64
	mostWins     = 256
	mostVLs      = 256
	mostPorts    = 512
	mostUDP      = 65535
	mostDepth    = 64
	longestMajor = 1 << 30
	longestSkew  = 1 << 30
	longestFresh = 1 << 40
	mostJitter   = 6250
)

// Check is what is wrong first with a network.
func Check(c api.Config) (Fault, api.Errno) {
	// Each judge trusts what those ahead of it have looked at.
	judges := [...]func(c api.Config) (int, api.Errno){
		Hosts:   judgeHosts,
		Parts:   judgeParts,
		Frame:   judgeFrame,
		Wins:    judgeWins,
		VLs:     judgeVLs,
		Ports:   judgePorts,
		Jitters: judgeJitters,
	}
	for what := Hosts; what <= Jitters; what++ {
		if at, e := judges[what](c); e != api.OK {
			return Fault{What: what, At: at}, e
		}
	}
	return Fault{}, api.OK
}

// within tells whether a number is from one to another one.
func within(n, least, most int) bool { return n >= least && n <= most }

func judgeHosts(c api.Config) (int, api.Errno) {
	if !within(c.Hosts, 1, mostHosts) {
		return 0, api.ErrArg
	}
	return 0, api.OK
}

func judgeParts(c api.Config) (int, api.Errno) {
	for i, host := range c.Parts {
		if i >= mostParts || !isHost(c, host) {
			return i, api.ErrArg
		}
	}
	return 0, api.OK
}

func isHost(c api.Config, n int) bool { return within(n, 0, c.Hosts-1) }

func isPart(c api.Config, n int) bool { return within(n, 0, len(c.Parts)-1) }

func judgeFrame(c api.Config) (int, api.Errno) {
	if !within(c.Major, 1, longestMajor) {
		return 0, api.ErrArg
	}
	return 0, api.OK
}

func judgeWins(c api.Config) (int, api.Errno) {
	var ends [mostHosts]int // of each host's last window so far
	for i, w := range c.Wins {
		if i >= mostWins || !mayWindow(c, w) {
			return i, api.ErrArg
		}
		host := c.Parts[w.Part]
		if w.Begin < ends[host] {
			return i, api.ErrOrder
		}
		ends[host] = w.Begin + w.Long
	}
	return 0, api.OK
}

// mayWindow tells whether a window may be, whatever the others are.
func mayWindow(c api.Config, w api.Window) bool {
	return isPart(c, w.Part) && w.Begin >= 0 && w.Long >= 1 &&
		w.Long <= c.Major-w.Begin // Begin and Long together might run over
}

func judgeVLs(c api.Config) (int, api.Errno) {
	ahead := 0 // the ID of the link ahead, and below all that may be
	for i, v := range c.VLs {
		if i >= mostVLs {
			return i, api.ErrArg
		}
		if e := judgeVL(c, v, ahead); e != api.OK {
			return i, e
		}
		ahead = v.ID
	}
	return 0, api.OK
}

func judgeVL(c api.Config, v api.VL, ahead int) api.Errno {
	switch {
	case !mayVL(c, v):
		return api.ErrArg
	case v.ID <= ahead || !rises(v.To):
		return api.ErrOrder
	case slices.ContainsFunc(v.To, func(to int) bool { return !isHost(c, to) || to == v.Host }):
		return api.ErrNone
	}
	return api.OK
}

// mayVL tells whether a link may be, whatever the others are and wherever it goes.
func mayVL(c api.Config, v api.VL) bool {
	return within(v.ID, 1, api.MaxVL) && isHost(c, v.Host) && within(v.Bag, 0, api.MaxBag) &&
		within(v.Smax, api.MinFrame, api.MaxFrame) && within(v.Subs, 1, api.MaxSubs) &&
		within(v.Skew, 0, longestSkew) && len(v.To) > 0
}

// rises tells whether each number is above the one ahead.
func rises(l []int) bool {
	for i := 1; i < len(l); i++ {
		if l[i] <= l[i-1] {
			return false
		}
	}
	return true
}

// way is where a port's messages go, or come from: by it ports are told apart.
type way struct {
	host int
	out  bool
	vl   int
	udp  int
}

func judgePorts(c api.Config) (int, api.Errno) {
	ahead := 0 // the ID of the port ahead, and below all that may be
	taken := map[way]struct{}{}
	for i, p := range c.Ports {
		if i >= mostPorts {
			return i, api.ErrArg
		}
		if e := judgePort(c, p, ahead); e != api.OK {
			return i, e
		}
		w := way{host: p.Host, out: p.Out, vl: p.VL, udp: p.UDP}
		if _, twice := taken[w]; twice {
			return i, api.ErrTwice
		}
		taken[w] = struct{}{}
		ahead = p.ID
	}
	return 0, api.OK
}

func judgePort(c api.Config, p api.Port, ahead int) api.Errno {
	switch {
	case !mayPort(c, p):
		return api.ErrArg
	case p.ID <= ahead:
		return api.ErrOrder
	case p.Host != c.Parts[p.Part]:
		return api.ErrNone
	}
	v, is := VL(c, p.VL)
	if !is {
		return api.ErrNone
	}
	if e := judgeEnd(p, v); e != api.OK {
		return e
	}
	return judgeKind(p, v)
}

// mayPort tells whether a port may be, whatever the others, its link and its kind ask of it.
func mayPort(c api.Config, p api.Port) bool {
	return p.ID >= 1 && (p.Kind == api.Sampling || p.Kind == api.Queuing) && isPart(c, p.Part) &&
		within(p.UDP, 0, mostUDP) && within(p.Size, 1, api.MaxText)
}

// judgeEnd is what is wrong with a port as one of its link's ends.
func judgeEnd(p api.Port, v api.VL) api.Errno {
	is, subs := slices.Contains(v.To, p.Host), 1
	if p.Out {
		is, subs = p.Host == v.Host, v.Subs
	}
	switch {
	case !is:
		return api.ErrNone
	case !within(p.Sub, 0, subs-1):
		return api.ErrArg
	}
	return api.OK
}

// judgeKind is what is wrong with a port as one of its kind.
func judgeKind(p api.Port, v api.VL) api.Errno {
	if p.Kind == api.Queuing {
		if !within(p.Depth, 1, mostDepth) || p.Fresh != 0 {
			return api.ErrArg
		}
		return api.OK
	}
	switch {
	case p.Depth != 0 || !mayFresh(p):
		return api.ErrArg
	case p.Size > Largest(v.Smax):
		return api.ErrLong
	}
	return api.OK
}

// mayFresh tells whether a sampling port's Fresh may be: what goes out is never old.
func mayFresh(p api.Port) bool {
	if p.Out {
		return p.Fresh == 0
	}
	return within(p.Fresh, 1, longestFresh)
}

func judgeJitters(c api.Config) (int, api.Errno) {
	for host := range c.Hosts {
		if Jitter(c, host) > mostJitter {
			return host, api.ErrRate
		}
	}
	return 0, api.OK
}
