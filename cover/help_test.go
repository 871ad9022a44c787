package cover_test

import (
	"fmt"
	"math/big"
	"math/rand/v2"
	"slices"
	"strconv"
	"testing"

	"couplant/api"
	"couplant/base"
)

const (
	greatest = int(^uint(0) >> 1)
	smallest = -greatest - 1
)

// want compares a result and its error with those that are promised; an empty list is one that is nil.
func want[T any](t *testing.T, what string, got T, e api.Errno, right T, f api.Errno) {
	t.Helper()
	if shown(got) != shown(right) || e != f {
		t.Errorf("%s: %s, error %d; want %s, error %d", what, shown(got), e, shown(right), f)
	}
}

// shown is a result in letters, also if it is bytes that are none.
func shown(result any) string {
	if s, isText := result.(string); isText {
		return strconv.Quote(s)
	}
	return fmt.Sprint(result)
}

// dice are numbers that are the same in each run.
type dice struct{ *rand.Rand }

func newDice(seed uint64) dice { return dice{rand.New(rand.NewPCG(seed, 7))} }

// from rolls a number from least to most.
func (d dice) from(least, most int) int { return least + d.IntN(most-least+1) }

// one rolls one of some numbers.
func (d dice) one(numbers ...int) int { return numbers[d.IntN(len(numbers))] }

// rational is num / den.
func rational(num, den int) *big.Rat {
	return new(big.Rat).SetFrac(big.NewInt(int64(num)), big.NewInt(int64(den)))
}

// whole is a number as a rational one.
func whole(n int) *big.Rat { return rational(n, 1) }

func sum(a, b *big.Rat) *big.Rat        { return new(big.Rat).Add(a, b) }
func difference(a, b *big.Rat) *big.Rat { return new(big.Rat).Sub(a, b) }
func product(a, b *big.Rat) *big.Rat    { return new(big.Rat).Mul(a, b) }
func share(a, b *big.Rat) *big.Rat      { return new(big.Rat).Quo(a, b) }
func size(a *big.Rat) *big.Rat          { return new(big.Rat).Abs(a) }

// rounded is a rational number, rounded to the nearest whole one, halves up.
func rounded(x *big.Rat) int {
	y := sum(x, rational(1, 2))
	// Div is rounded down, as Denom is above 0.
	return int(new(big.Int).Div(y.Num(), y.Denom()).Int64())
}

// pointOf is a rational number as a point, and shareOf a point as a rational number.
func pointOf(x *big.Rat) api.CoverPoint {
	return api.CoverPoint{Num: int(x.Num().Int64()), Den: int(x.Denom().Int64())}
}

func shareOf(p api.CoverPoint) *big.Rat { return rational(p.Num, p.Den) }

// frac is num / den in lowest terms, point likewise, and part from one such point to another one.
func frac(num, den int) api.Frac { return base.Lowest(num, den) }

func point(num, den int) api.CoverPoint { return api.CoverPoint(frac(num, den)) }

func part(num, den, toNum, toDen int) api.CoverPart {
	return api.CoverPart{From: point(num, den), To: point(toNum, toDen)}
}

// face is a face with a name of one letter that is fit for its number.
func face(n, fromX, fromZ, toX, toZ int) api.CoverFace {
	return api.CoverFace{Name: "fghijklmnopqrst"[n : n+1], From: api.Spot{X: fromX, Z: fromZ}, To: api.Spot{X: toX, Z: toZ}}
}

// slant is the joint of the chapter's examples, direct the set-up of the first one, skip that of the fourth one.
func slant() api.CoverJoint {
	return api.CoverJoint{Name: "v", Thick: 1000, Faces: []api.CoverFace{face(0, 0, 1000, 1000, 0)}}
}

func direct() api.CoverSetup {
	return api.CoverSetup{Name: "a", At: -1000, Side: 1, Legs: 1, Least: frac(0, 1), Most: frac(3, 1), Tilt: frac(1, 1)}
}

func skip() api.CoverSetup {
	return api.CoverSetup{Name: "b", At: 0, Side: 1, Legs: 2, Least: frac(0, 1), Most: frac(3, 1), Tilt: frac(3, 1)}
}

// ruler is a joint whose faces lie at the depth 1000, each 1000 long, behind each other; the set-up hit meets the places from lo to hi tenths of a thousandth of them.
func ruler(faces int) api.CoverJoint {
	j := api.CoverJoint{Name: "ruler", Thick: 1000}
	for n := range faces {
		j.Faces = append(j.Faces, face(n, 1000*n, 1000, 1000*n+1000, 1000))
	}
	return j
}

func hit(name string, lo, hi int) api.CoverSetup {
	return api.CoverSetup{Name: name, Side: 1, Legs: 1, Least: frac(lo, 10), Most: frac(hi, 10), Tilt: frac(100, 1)}
}

// hits is a set-up for each two numbers, with names of one letter.
func hits(ends ...int) []api.CoverSetup {
	var l []api.CoverSetup
	for n := 0; n < len(ends); n += 2 {
		l = append(l, hit("abcdefghijklm"[n/2:n/2+1], ends[n], ends[n+1]))
	}
	return l
}

// wrongJoint is a joint with the number and the error that CheckJoint returns.
type wrongJoint struct {
	j     api.CoverJoint
	n     int
	right api.Errno
}

func wrongJoints() []wrongJoint {
	var l []wrongJoint
	add := func(n int, right api.Errno, change func(j *api.CoverJoint)) {
		j := api.CoverJoint{Name: "v", Thick: 1000, Zone: 50, Faces: []api.CoverFace{face(0, 0, 1000, 1000, 0), face(1, 5, 6, 7, 8), face(2, 5, 6, 7, 8)}}
		change(&j)
		l = append(l, wrongJoint{j, n, right})
	}
	for _, name := range []string{"", "5a", "a b", "abcdefghijklm", "ä"} {
		add(0, api.ErrName, func(j *api.CoverJoint) { j.Name, j.Thick, j.Faces = name, 0, make([]api.CoverFace, 13) })
		add(1, api.ErrName, func(j *api.CoverJoint) { j.Faces[1].Name, j.Faces[1].To = name, api.Spot{X: 5, Z: 6} })
	}
	for _, n := range []int{smallest, -1, 0, 20001, greatest} {
		add(0, api.ErrRange, func(j *api.CoverJoint) { j.Thick = n })
		add(0, api.ErrRange, func(j *api.CoverJoint) { j.Thick, j.Faces = n, make([]api.CoverFace, 13) })
	}
	for _, n := range []int{smallest, -1, 20001, greatest} {
		add(0, api.ErrRange, func(j *api.CoverJoint) { j.Zone, j.Faces = n, make([]api.CoverFace, 13) })
	}
	add(0, api.ErrLarge, func(j *api.CoverJoint) { j.Faces = make([]api.CoverFace, 13) })
	add(2, api.ErrExists, func(j *api.CoverJoint) { j.Faces[2] = api.CoverFace{Name: "f", From: api.Spot{X: 99999}} })
	add(1, api.ErrExists, func(j *api.CoverJoint) { j.Faces[1] = api.CoverFace{Name: "f"} })
	add(1, api.ErrName, func(j *api.CoverJoint) { j.Faces[0].Name, j.Faces[1].Name, j.Faces[2].Name = "f", "", "f" })
	for _, n := range []int{smallest, -20001, 20001, greatest} {
		add(0, api.ErrRange, func(j *api.CoverJoint) { j.Faces[0].From.X = n })
		add(2, api.ErrRange, func(j *api.CoverJoint) { j.Faces[2].To.X = n })
		add(1, api.ErrRange, func(j *api.CoverJoint) { j.Faces[1].To, j.Faces[1].From = api.Spot{X: n}, api.Spot{X: n} })
	}
	for _, n := range []int{smallest, -1, 1001, greatest} {
		add(1, api.ErrRange, func(j *api.CoverJoint) { j.Faces[1].From.Z = n })
		add(0, api.ErrRange, func(j *api.CoverJoint) { j.Faces[0].To.Z = n })
	}
	add(1, api.ErrZero, func(j *api.CoverJoint) { j.Faces[1].To = j.Faces[1].From })
	add(0, api.ErrZero, func(j *api.CoverJoint) { j.Faces[0].To, j.Faces[1].Name = j.Faces[0].From, "" })
	return l
}

// wrongSetup is a set-up with the error that CheckSetup returns.
type wrongSetup struct {
	s     api.CoverSetup
	right api.Errno
}

func wrongSetups() []wrongSetup {
	var l []wrongSetup
	add := func(right api.Errno, change func(s *api.CoverSetup)) {
		s := direct()
		change(&s)
		l = append(l, wrongSetup{s, right})
	}
	tangents := []func(s *api.CoverSetup) *api.Frac{
		func(s *api.CoverSetup) *api.Frac { return &s.Least },
		func(s *api.CoverSetup) *api.Frac { return &s.Most },
		func(s *api.CoverSetup) *api.Frac { return &s.Tilt },
	}
	add(api.ErrName, func(s *api.CoverSetup) { *s = api.CoverSetup{} })
	add(api.ErrName, func(s *api.CoverSetup) { s.Name, s.At = "a_", greatest })
	for _, n := range []int{smallest, -20001, 20001, greatest} {
		add(api.ErrRange, func(s *api.CoverSetup) { s.At, s.Side, s.Legs = n, 0, 0 })
	}
	for _, n := range []int{smallest, -2, 0, 2, greatest} {
		add(api.ErrKind, func(s *api.CoverSetup) { s.Side, s.Least = n, api.Frac{} })
	}
	for _, n := range []int{smallest, -1, 0, 3, greatest} {
		add(api.ErrKind, func(s *api.CoverSetup) { s.Legs, s.Least = n, api.Frac{} })
	}
	for n, tangent := range tangents {
		for _, f := range wrongForms() {
			add(api.ErrForm, func(s *api.CoverSetup) {
				*tangent(s) = f
				if n < 2 {
					*tangents[n+1](s) = frac(101, 1)
				}
			})
		}
		for _, f := range []api.Frac{frac(-1, 2), frac(-1, 1), frac(101, 1), frac(101, 100), frac(100, 101), frac(0, 1), frac(1, 101), {Num: smallest, Den: 1}, {Num: greatest, Den: 1}, {Num: 1, Den: greatest}} {
			if f == frac(0, 1) {
				continue
			}
			add(api.ErrRange, func(s *api.CoverSetup) {
				*tangent(s) = f
				if n < 2 {
					*tangents[n+1](s) = api.Frac{}
				}
			})
		}
	}
	add(api.ErrOrder, func(s *api.CoverSetup) { s.Least, s.Most = frac(1, 3), frac(33, 100) })
	add(api.ErrOrder, func(s *api.CoverSetup) { s.Least, s.Most = frac(1, 100), frac(0, 1) })
	add(api.ErrOrder, func(s *api.CoverSetup) { s.Least, s.Most = frac(100, 1), frac(99, 1) })
	add(api.ErrForm, func(s *api.CoverSetup) { s.Least, s.Tilt = frac(4, 1), api.Frac{} })
	return l
}

// wrongForms are fractions that are not in lowest terms, or have no Den above 0.
func wrongForms() []api.Frac {
	return []api.Frac{{}, {Num: 1}, {Num: 0, Den: 2}, {Num: 2, Den: 4}, {Num: 1, Den: -1}, {Num: -1, Den: -2}, {Num: 0, Den: smallest}, {Num: smallest, Den: smallest}, {Num: greatest, Den: greatest}}
}

// wrongPoint is a point with its error.
type wrongPoint struct {
	p     api.CoverPoint
	right api.Errno
}

func wrongPoints() []wrongPoint {
	l := []wrongPoint{
		{point(-1, 2), api.ErrRange}, {point(3, 2), api.ErrRange}, {point(2, 1), api.ErrRange}, {point(-1, 1), api.ErrRange},
		{api.CoverPoint{Num: smallest, Den: 1}, api.ErrRange}, {api.CoverPoint{Num: greatest, Den: 1}, api.ErrRange}, {api.CoverPoint{Num: 1, Den: greatest}, api.ErrRange},
		{point(1, 1000000000001), api.ErrRange}, {point(1000000000000, 1000000000001), api.ErrRange}, {api.CoverPoint{Num: greatest - 1, Den: greatest}, api.ErrRange},
	}
	for _, f := range wrongForms() {
		l = append(l, wrongPoint{api.CoverPoint(f), api.ErrForm})
	}
	return l
}

// wrongList is set-ups with their error.
type wrongList struct {
	l     []api.CoverSetup
	right api.Errno
}

func wrongLists() []wrongList {
	twice, other := direct(), skip()
	other.Name = twice.Name
	l := []wrongList{
		{make([]api.CoverSetup, 13), api.ErrLarge}, {hits(make([]int, 26)...), api.ErrLarge},
		{[]api.CoverSetup{twice, twice}, api.ErrExists}, {[]api.CoverSetup{direct(), skip(), other, {}}, api.ErrExists},
		{[]api.CoverSetup{direct(), skip(), {}, other}, api.ErrName},
	}
	other.Side = 0
	l = append(l, wrongList{[]api.CoverSetup{direct(), other}, api.ErrKind})
	for _, x := range wrongSetups() {
		l = append(l, wrongList{[]api.CoverSetup{x.s}, x.right}, wrongList{[]api.CoverSetup{skip(), x.s, {}}, x.right})
	}
	return l
}

// wrongFaces are numbers of faces that the joint slant has not.
func wrongFaces() []int { return []int{smallest, -1, 1, greatest} }

// isMet tells whether a set-up meets the point of a face with a share, as the chapter defines it.
func isMet(j api.CoverJoint, n int, s api.CoverSetup, t *big.Rat) bool {
	from, to := j.Faces[n].From, j.Faces[n].To
	if s.Legs == 2 {
		from.Z, to.Z = 2*j.Thick-from.Z, 2*j.Thick-to.Z
	}
	wx, wz := whole(to.X-from.X), whole(to.Z-from.Z)
	dx := sum(whole(from.X-s.At), product(t, wx))
	dz := sum(whole(from.Z), product(t, wz))
	across, down := product(whole(s.Side), dx), dz
	if product(across, whole(s.Least.Den)).Cmp(product(down, whole(s.Least.Num))) < 0 {
		return false
	}
	if product(across, whole(s.Most.Den)).Cmp(product(down, whole(s.Most.Num))) > 0 {
		return false
	}
	k := difference(product(wx, dz), product(wz, dx))
	a := sum(product(wx, dx), product(wz, dz))
	return k.Sign() != 0 && product(size(a), whole(s.Tilt.Den)).Cmp(product(size(k), whole(s.Tilt.Num))) <= 0
}

// signOf is the sign of the number K of a set-up and a face.
func signOf(j api.CoverJoint, n int, s api.CoverSetup) int {
	from, to := j.Faces[n].From, j.Faces[n].To
	if s.Legs == 2 {
		from.Z, to.Z = 2*j.Thick-from.Z, 2*j.Thick-to.Z
	}
	k := (to.X-from.X)*from.Z - (to.Z-from.Z)*(from.X-s.At)
	return max(-1, min(1, k))
}

// turns are the shares, from 0 to 1, at which a set-up may begin or cease to meet a face: both ends, and where the fan or the tilt have their bounds.
func turns(j api.CoverJoint, n int, s api.CoverSetup) []*big.Rat {
	from, to := j.Faces[n].From, j.Faces[n].To
	if s.Legs == 2 {
		from.Z, to.Z = 2*j.Thick-from.Z, 2*j.Thick-to.Z
	}
	wx, wz, dx, dz := to.X-from.X, to.Z-from.Z, from.X-s.At, from.Z
	k := wx*dz - wz*dx
	l := []*big.Rat{whole(0), whole(1)}
	zero := func(start, rise int) {
		if rise == 0 {
			return
		}
		if t := rational(-start, rise); t.Sign() > 0 && t.Cmp(whole(1)) < 0 {
			l = append(l, t)
		}
	}
	zero(s.Side*dx*s.Least.Den-dz*s.Least.Num, s.Side*wx*s.Least.Den-wz*s.Least.Num)
	zero(s.Side*dx*s.Most.Den-dz*s.Most.Num, s.Side*wx*s.Most.Den-wz*s.Most.Num)
	a, rise := (wx*dx+wz*dz)*s.Tilt.Den, (wx*wx+wz*wz)*s.Tilt.Den
	zero(a-k*s.Tilt.Num, rise)
	zero(a+k*s.Tilt.Num, rise)
	return sorted(l)
}

// sorted is shares ascending, each one once.
func sorted(l []*big.Rat) []*big.Rat {
	slices.SortFunc(l, (*big.Rat).Cmp)
	return slices.CompactFunc(l, func(a, b *big.Rat) bool { return a.Cmp(b) == 0 })
}

// middle is the share between two ones.
func middle(a, b *big.Rat) *big.Rat { return share(sum(a, b), whole(2)) }

// rightPart is the first and the last share of a face that a set-up meets; false, if there is none.
func rightPart(j api.CoverJoint, n int, s api.CoverSetup) ([2]*big.Rat, bool) {
	var found []*big.Rat
	l := turns(j, n, s)
	for m, t := range l {
		if isMet(j, n, s, t) {
			found = append(found, t)
		}
		// What is met between two turns is met at them, too, as the bounds are met.
		if m > 0 && isMet(j, n, s, middle(l[m-1], t)) && (!isMet(j, n, s, l[m-1]) || !isMet(j, n, s, t)) {
			panic("a part without its end")
		}
	}
	if len(found) == 0 {
		return [2]*big.Rat{}, false
	}
	return [2]*big.Rat{found[0], found[len(found)-1]}, true
}

// field is shares of a face, ascending: where set-ups may begin or cease to meet it, with one share between each two; and the set-ups that meet them, as bits.
type field struct {
	shares []*big.Rat
	met    []int
}

func fieldOf(j api.CoverJoint, n int, l []api.CoverSetup) field {
	ends := []*big.Rat{whole(0), whole(1)}
	for _, s := range l {
		ends = append(ends, turns(j, n, s)...)
	}
	var f field
	for m, end := range sorted(ends) {
		if m > 0 {
			f.shares = append(f.shares, middle(f.shares[2*m-2], end))
		}
		f.shares = append(f.shares, end)
	}
	for _, t := range f.shares {
		met := 0
		for m, s := range l {
			if isMet(j, n, s, t) {
				met |= 1 << m
			}
		}
		f.met = append(f.met, met)
	}
	return f
}

// gap is the first gap of some of the set-ups, as the chapter defines it; false, if there is none.
func (f field) gap(some int) (api.CoverPart, bool) {
	for m := 1; m < len(f.shares); m += 2 {
		if f.met[m]&some != 0 {
			continue
		}
		last := m + 1
		for last+1 < len(f.shares) && f.met[last]&some == 0 && f.met[last+1]&some == 0 {
			last += 2
		}
		return api.CoverPart{From: pointOf(f.shares[m-1]), To: pointOf(f.shares[last])}, true
	}
	return api.CoverPart{}, false
}

// rightGap is the first gap of all of the set-ups.
func rightGap(j api.CoverJoint, n int, l []api.CoverSetup) (api.CoverPart, bool) {
	return fieldOf(j, n, l).gap(-1)
}

// doCover tells whether some of the set-ups cover a face.
func doCover(j api.CoverJoint, n int, l []api.CoverSetup, choice []int) bool {
	some := 0
	for _, m := range choice {
		some |= 1 << m
	}
	_, isGap := fieldOf(j, n, l).gap(some)
	return !isGap
}

// leastChoice is the fewest set-ups that cover all of the faces that are given, of several such ones the first; false, if none do.
func leastChoice(j api.CoverJoint, l []api.CoverSetup, faces ...int) ([]int, bool) {
	var fields []field
	for _, n := range faces {
		fields = append(fields, fieldOf(j, n, l))
	}
	var best []int
	isSome := false
	for some := range 1 << len(l) {
		isLeft := func(f field) bool {
			_, isGap := f.gap(some)
			return isGap
		}
		if slices.ContainsFunc(fields, isLeft) {
			continue
		}
		var choice []int
		for n := range l {
			if some>>n&1 == 1 {
				choice = append(choice, n)
			}
		}
		if !isSome || len(choice) < len(best) || len(choice) == len(best) && slices.Compare(choice, best) < 0 {
			best, isSome = choice, true
		}
	}
	return best, isSome
}

// joint rolls a joint; some are small, so that places and directions meet, others as great as may be.
func (d dice) joint(most int) api.CoverJoint {
	thick := d.one(1, 2, 5, 6, 1000, 20000)
	wide := d.one(thick, 2*thick, 20000)
	j := api.CoverJoint{Name: "joint", Thick: thick, Zone: d.one(0, 1, thick, 20000)}
	for n := range d.from(1, most) {
		f := face(n, d.across(wide), d.from(0, thick), d.across(wide), d.from(0, thick))
		if d.from(0, 4) == 0 {
			f.From.Z, f.To.Z = d.one(0, thick), d.one(0, thick)
		}
		if f.From == f.To {
			f.From.Z, f.To.Z = 0, thick
		}
		j.Faces = append(j.Faces, f)
	}
	return j
}

// across rolls a place along the surface.
func (d dice) across(wide int) int {
	wide = min(wide, 20000)
	return d.one(0, wide, -wide, d.from(-wide, wide), d.from(-wide, wide))
}

// tangent rolls a tangent that is right.
func (d dice) tangent() api.Frac {
	most := d.one(1, 3, 10, 100)
	return frac(d.from(0, most), d.from(1, d.one(1, 3, most)))
}

// setup rolls a set-up for a joint; its name is a letter that is fit for its number.
func (d dice) setup(j api.CoverJoint, n int) api.CoverSetup {
	s := api.CoverSetup{
		Name: "abcdefghijkl"[n : n+1], At: d.across(d.one(j.Thick, 3*j.Thick, 20000)), Side: d.one(-1, 1), Legs: d.one(1, 2),
		Least: d.tangent(), Most: d.tangent(), Tilt: d.tangent(),
	}
	if s.Least.Num*s.Most.Den > s.Most.Num*s.Least.Den {
		s.Least, s.Most = s.Most, s.Least
	}
	if d.from(0, 2) == 0 {
		s.Least, s.Tilt = frac(0, 1), frac(100, 1)
	}
	return s
}

// setups rolls set-ups for a joint.
func (d dice) setups(j api.CoverJoint, most int) []api.CoverSetup {
	var l []api.CoverSetup
	for n := range d.from(0, most) {
		l = append(l, d.setup(j, n))
	}
	return l
}

// hits rolls set-ups for a ruler with so many faces.
func (d dice) hits(faces, most int) []api.CoverSetup {
	var ends []int
	reach := 0
	for range d.from(0, most) {
		// Most begin where there is something to be met, so that many lists have no gap.
		lo := d.one(d.from(0, 10*faces), reach, max(0, reach-1))
		hi := min(10*faces, lo+d.one(0, d.from(0, 4), d.from(2, 7), d.from(0, 10)))
		reach = max(reach, hi)
		ends = append(ends, lo, hi)
	}
	l := hits(ends...)
	d.Shuffle(len(l), func(a, b int) { l[a], l[b] = l[b], l[a] })
	return l
}

// rising is the numbers from 0 up to below a count.
func rising(count int) []int {
	var l []int
	for n := range count {
		l = append(l, n)
	}
	return l
}
