// Package plane is layer 1: see shared/doc/01-plane.md.
package plane

import "paddock/api"

// Reach tells whether a point is in reach.
func Reach(p api.Point) bool {
	return both(p, -api.MaxSpan, api.MaxSpan)
}

// Right tells whether a box is right.
func Right(b api.Box) bool {
	low, high := corners(b)
	return Reach(low) && Reach(high) && low.X <= high.X && low.Y <= high.Y
}

// Of is the box around a point.
func Of(at, half api.Point) (api.Box, error) {
	if !both(at, -api.MaxCoord, api.MaxCoord) || !both(half, 0, api.MaxExtent) {
		return api.Box{}, api.ErrRange
	}
	return api.Box{X0: at.X - half.X, Y0: at.Y - half.Y, X1: at.X + half.X, Y1: at.Y + half.Y}, nil
}

// Meets tells whether boxes meet.
func Meets(a, b api.Box) bool {
	return Right(a) && Right(b) && a.X0 <= b.X1 && b.X0 <= a.X1 && a.Y0 <= b.Y1 && b.Y0 <= a.Y1
}

// Has tells whether a point is in a box.
func Has(b api.Box, p api.Point) bool {
	return Right(b) && between(p.X, b.X0, b.X1) && between(p.Y, b.Y0, b.Y1)
}

// Inside tells whether a box lies in another one.
func Inside(a, b api.Box) bool {
	low, high := corners(a)
	return Right(a) && Has(b, low) && Has(b, high)
}

// Join is the least box in which all lie.
func Join(boxes ...api.Box) (api.Box, error) {
	if len(boxes) == 0 {
		return api.Box{}, api.ErrNone
	}
	all := boxes[0]
	for _, b := range boxes {
		if !Right(b) {
			return api.Box{}, api.ErrForm
		}
		all.X0, all.Y0 = min(all.X0, b.X0), min(all.Y0, b.Y0)
		all.X1, all.Y1 = max(all.X1, b.X1), max(all.Y1, b.Y1)
	}
	return all, nil
}

// Dist2 is the square of a distance.
func Dist2(p, q api.Point) (int, error) {
	if !Reach(p) || !Reach(q) {
		return 0, api.ErrRange
	}
	dx, dy := p.X-q.X, p.Y-q.Y
	return dx*dx + dy*dy, nil
}

// Gap2 is the square of a distance to a box.
func Gap2(p api.Point, b api.Box) (int, error) {
	if !Reach(p) {
		return 0, api.ErrRange
	}
	if !Right(b) {
		return 0, api.ErrForm
	}
	return Dist2(p, api.Point{X: nearest(p.X, b.X0, b.X1), Y: nearest(p.Y, b.Y0, b.Y1)})
}

// Within tells whether points are near each other.
func Within(p, q api.Point, r int) (bool, error) {
	if !between(r, 0, api.MaxRadius) {
		return false, api.ErrRange
	}
	d, err := Dist2(p, q)
	if err != nil {
		return false, err
	}
	return d <= r*r, nil
}

// Centre is a box's centre.
func Centre(b api.Box) (api.Point, error) {
	if !Right(b) {
		return api.Point{}, api.ErrForm
	}
	return api.Point{X: middle(b.X0, b.X1), Y: middle(b.Y0, b.Y1)}, nil
}

// between compares without reckoning, so that no number overflows, however great.
func between(n, low, high int) bool {
	return low <= n && n <= high
}

// both tells whether both coordinates are from low to high.
func both(p api.Point, low, high int) bool {
	return between(p.X, low, high) && between(p.Y, low, high)
}

// corners are a box's lowest and highest points.
func corners(b api.Box) (low, high api.Point) {
	return api.Point{X: b.X0, Y: b.Y0}, api.Point{X: b.X1, Y: b.Y1}
}

// nearest is the number from low to high that is nearest to n.
func nearest(n, low, high int) int {
	return min(max(n, low), high)
}

// middle shifts, as a division would round sums below 0 up.
func middle(low, high int) int {
	return (low + high) >> 1
}
