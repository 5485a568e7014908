package pick

import (
	"oxbow/api"
	"oxbow/version"
)

// mostRoom: no level has more room, however great the limits are.
const mostRoom int64 = 1 << 60

// Room: how many bytes a level may hold.
func (l Limits) Room(level int) int64 {
	if level < 1 || level >= api.Levels {
		return 0
	}
	room, ratio := min(max(l.Base, 1), mostRoom), max(l.Ratio, 1)
	for range level - 1 {
		// The product itself might not fit into a number.
		if room > mostRoom/ratio {
			return mostRoom
		}
		room *= ratio
	}
	return room
}

// Full: does a level hold more than it may?
func (l Limits) Full(v version.Version, level int) bool {
	switch {
	case level == 0:
		return len(v.Levels[0]) >= max(l.Zero, 1)
	case level < 0 || level >= api.Levels-1:
		return false
	}
	left := l.Room(level)
	for _, m := range v.Levels[level] {
		if m.Size > left {
			return true
		}
		left -= m.Size
	}
	return false
}
