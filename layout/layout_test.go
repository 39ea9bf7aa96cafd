package layout_test

import (
	"math"
	"math/rand"
	"slices"
	"strings"
	"testing"

	"arenanet/api"
	"arenanet/layout"
)

// setup returns a valid setup whose numbers all differ.
func setup() api.Setup {
	square := api.Shape{Poly: []api.Vec{{X: -2, Y: -2}, {X: 2, Y: -2}, {X: 2, Y: 2}, {X: -2, Y: 2}}}
	return api.Setup{
		Players: 2,
		Bodies: []api.Body{
			{Shape: api.Shape{Radius: 11}, Motion: api.Motion{Pos: api.Vec{X: 1, Y: -2}, Vel: api.Vec{X: 3, Y: -4}, InvMass: 5}, A: 6, B: -7},
			{Shape: square, Motion: api.Motion{Pos: api.Vec{X: -21, Y: 22}, Vel: api.Vec{X: -23, Y: 24}, InvMass: 25}, A: -26, B: 27},
			{Shape: api.Shape{Radius: 12}, Motion: api.Motion{Pos: api.Vec{X: 31, Y: 32}, Vel: api.Vec{X: 33, Y: 34}}, A: 36, B: 37},
		},
		Bounds:      api.Box{X0: -300, Y0: -200, X1: 400, Y1: 500},
		Rooms:       []api.Box{{X0: -1, Y0: -2, X1: 3, Y1: 4}, {X0: 900, Y0: 900, X1: 901, Y1: 902}, {}},
		Doors:       []api.Door{{From: 0, To: 2}, {From: 2, To: 1}},
		Fog:         41,
		Gravity:     api.Vec{X: 42, Y: -43},
		Push:        44,
		Drag:        45,
		Restitution: 46,
		Rounds:      2,
		Fuel:        47,
	}
}

// sized returns a setup with that many players and bodies, which are alike but for their numbers.
func sized(players, bodies int) api.Setup {
	s := setup()
	s.Players, s.Bodies = players, make([]api.Body, bodies)
	s.Bounds = api.Box{X0: -1000, Y0: -1000, X1: 1000, Y1: 1000}
	for i := range s.Bodies {
		k := 10 * (i + 1)
		s.Bodies[i] = api.Body{Shape: api.Shape{Radius: 1}, Motion: api.Motion{Pos: api.Vec{X: k, Y: -k - 1}, Vel: api.Vec{X: k + 2, Y: -k - 3}, InvMass: k + 4}, A: k + 5, B: -k - 6}
	}
	return s
}

// gauge is a number of a setup, with the range in which it is valid.
type gauge struct {
	name      string
	at        func(s *api.Setup) *int
	low, high int
}

// gauges returns those numbers of setup() whose ranges hang on no other number.
func gauges() []gauge {
	const coord, speed, value = 1048576, 16384, 2147483647
	list := []gauge{
		{"Players", func(s *api.Setup) *int { return &s.Players }, 1, 3},
		{"Bounds.X0", func(s *api.Setup) *int { return &s.Bounds.X0 }, -coord, -21},
		{"Bounds.Y0", func(s *api.Setup) *int { return &s.Bounds.Y0 }, -coord, -2},
		{"Bounds.X1", func(s *api.Setup) *int { return &s.Bounds.X1 }, 31, coord},
		{"Bounds.Y1", func(s *api.Setup) *int { return &s.Bounds.Y1 }, 32, coord},
		{"Fog", func(s *api.Setup) *int { return &s.Fog }, 0, 4194304},
		{"Gravity.X", func(s *api.Setup) *int { return &s.Gravity.X }, -speed, speed},
		{"Gravity.Y", func(s *api.Setup) *int { return &s.Gravity.Y }, -speed, speed},
		{"Push", func(s *api.Setup) *int { return &s.Push }, 0, speed},
		{"Drag", func(s *api.Setup) *int { return &s.Drag }, 0, 1024},
		{"Restitution", func(s *api.Setup) *int { return &s.Restitution }, 0, 1024},
		{"Rounds", func(s *api.Setup) *int { return &s.Rounds }, 1, 4},
		{"Fuel", func(s *api.Setup) *int { return &s.Fuel }, 0, 1000},
	}
	for i := range 3 {
		list = append(list,
			gauge{"X", func(s *api.Setup) *int { return &s.Bodies[i].Motion.Pos.X }, -300, 400},
			gauge{"Y", func(s *api.Setup) *int { return &s.Bodies[i].Motion.Pos.Y }, -200, 500},
			gauge{"VX", func(s *api.Setup) *int { return &s.Bodies[i].Motion.Vel.X }, -speed, speed},
			gauge{"VY", func(s *api.Setup) *int { return &s.Bodies[i].Motion.Vel.Y }, -speed, speed},
			gauge{"InvMass", func(s *api.Setup) *int { return &s.Bodies[i].Motion.InvMass }, 0, 4096},
			gauge{"A", func(s *api.Setup) *int { return &s.Bodies[i].A }, -value, value},
			gauge{"B", func(s *api.Setup) *int { return &s.Bodies[i].B }, -value, value},
		)
	}
	for i, room := range setup().Rooms {
		list = append(list,
			gauge{"X0", func(s *api.Setup) *int { return &s.Rooms[i].X0 }, -coord, room.X1},
			gauge{"Y0", func(s *api.Setup) *int { return &s.Rooms[i].Y0 }, -coord, room.Y1},
			gauge{"X1", func(s *api.Setup) *int { return &s.Rooms[i].X1 }, room.X0, coord},
			gauge{"Y1", func(s *api.Setup) *int { return &s.Rooms[i].Y1 }, room.Y0, coord},
		)
	}
	return list
}

func TestP12_1_Ranges(t *testing.T) {
	if e := layout.Validate(setup()); e != api.OK {
		t.Fatalf("a valid setup: %v", e)
	}
	for _, g := range gauges() {
		for _, n := range []int{g.low, g.low + (g.high-g.low)/2, g.high} {
			s := setup()
			*g.at(&s) = n
			if e := layout.Validate(s); e != api.OK {
				t.Errorf("%s %d: %v", g.name, n, e)
			}
		}
		for _, n := range []int{g.low - 1, g.high + 1, g.low - 1<<32, g.high + 1<<32, math.MinInt, math.MinInt + 1, math.MaxInt} {
			s := setup()
			*g.at(&s) = n
			if e := layout.Validate(s); e != api.ErrSetup {
				t.Errorf("%s %d: %v, want ErrSetup", g.name, n, e)
			}
		}
	}
}

func TestP12_1_PlayersAndBodies(t *testing.T) {
	for bodies := range 30 {
		for players := -1; players < 12; players++ {
			want := api.ErrSetup
			if players >= 1 && players <= 8 && bodies >= players && bodies <= 24 {
				want = api.OK
			}
			if e := layout.Validate(sized(players, bodies)); e != want {
				t.Errorf("%d players, %d bodies: %v, want %v", players, bodies, e, want)
			}
		}
	}
}

func TestP12_1_RoomsAndDoors(t *testing.T) {
	for rooms := range 12 {
		s := setup()
		s.Rooms, s.Doors = make([]api.Box, rooms), nil
		if e := layout.Validate(s); (e == api.OK) != (rooms <= 8) || e != api.OK && e != api.ErrSetup {
			t.Errorf("%d rooms: %v", rooms, e)
		}
		for from := -2; from < 12; from++ {
			for to := -2; to < 12; to++ {
				s.Doors = []api.Door{{From: from, To: to}}
				valid := rooms <= 8 && from >= 0 && to >= 0 && from < rooms && to < rooms && from != to
				if e := layout.Validate(s); (e == api.OK) != valid {
					t.Errorf("%d rooms, door from %d to %d: %v", rooms, from, to, e)
				}
			}
		}
	}
	for doors := range 20 {
		s := setup()
		s.Doors = slices.Repeat([]api.Door{{From: 2, To: 0}}, doors)
		if e := layout.Validate(s); (e == api.OK) != (doors <= 16) {
			t.Errorf("%d doors: %v", doors, e)
		}
		if doors > 0 {
			s.Doors[doors-1].To = 2
			if e := layout.Validate(s); e != api.ErrSetup {
				t.Errorf("last of %d doors leads nowhere: %v", doors, e)
			}
		}
	}
	s := setup()
	for _, far := range []int{math.MinInt, math.MaxInt, 1 << 32} {
		for _, d := range []api.Door{{From: far, To: 1}, {From: 1, To: far}, {From: far, To: far}} {
			s.Doors[1] = d
			if e := layout.Validate(s); e != api.ErrSetup {
				t.Errorf("door %v: %v", d, e)
			}
		}
	}
}

func TestP12_1_Rectangles(t *testing.T) {
	s := setup()
	s.Rooms[1] = api.Box{X0: 5, Y0: -6, X1: 5, Y1: -6} // one point
	s.Bounds = api.Box{X0: -1048576, Y0: -1048576, X1: 1048576, Y1: 1048576}
	if e := layout.Validate(s); e != api.OK {
		t.Error(e)
	}
	for _, b := range []api.Box{{X0: 1}, {Y0: 1}, {X0: 1048577, X1: 1048577}, {Y0: 1048577, Y1: 1048577}, {X0: -1048577, X1: -1048577}, {Y0: -1048577, Y1: -1048577}} {
		s := setup()
		s.Rooms[2] = b
		if e := layout.Validate(s); e != api.ErrSetup {
			t.Errorf("room %v: %v", b, e)
		}
		s = setup()
		for i := range s.Bodies {
			s.Bodies[i].Motion.Pos = api.Vec{X: b.X0, Y: b.Y0}
		}
		s.Bounds = b
		if e := layout.Validate(s); e != api.ErrSetup {
			t.Errorf("bounds %v: %v", b, e)
		}
	}
}

func TestP12_1_Shapes(t *testing.T) {
	bad := []api.Shape{{}, {Radius: -1}, {Radius: 32769}, {Radius: math.MinInt}, {Poly: []api.Vec{{X: 1}, {Y: 1}}}, {Radius: 1, Poly: setup().Bodies[1].Shape.Poly}}
	for _, b := range bad {
		for i := range 3 {
			s := setup()
			s.Bodies[i].Shape = b
			if e := layout.Validate(s); e != api.ErrShape {
				t.Errorf("shape %v of body %d: %v", b, i, e)
			}
			// The shape is told first, whatever else is invalid.
			for _, g := range gauges() {
				broken := setup()
				broken.Bodies[i].Shape = b
				*g.at(&broken) = g.high + 1
				if e := layout.Validate(broken); e != api.ErrShape {
					t.Errorf("shape of body %d and %s: %v", i, g.name, e)
				}
			}
		}
	}
	s := sized(3, 40)
	s.Bodies[39].Shape = api.Shape{}
	if e := layout.Validate(s); e != api.ErrShape {
		t.Errorf("too many bodies, the last one without a shape: %v", e)
	}
	if e := layout.Validate(api.Setup{}); e != api.ErrSetup {
		t.Errorf("the zero setup: %v", e)
	}
}

func TestP12_2_Examples(t *testing.T) {
	s := sized(1, 1)
	if n, p, b, f := layout.Size(s), layout.Player(s, 0), layout.Body(s, 0), layout.Field("vx"); n != 60 || p != 48 || b != 52 || f != 2 {
		t.Error(n, p, b, f)
	}
}

func TestP12_2_Constants(t *testing.T) {
	machine := []int{layout.Tick, layout.Phase, layout.I, layout.J, layout.Round, layout.Fraction, layout.PC, layout.SP, layout.Fuel, layout.Self, layout.Other, layout.EffectCount, layout.EffectHash, layout.Version}
	player := []int{layout.DX, layout.DY, layout.Act, layout.Score, layout.PlayerCells}
	body := []int{layout.X, layout.Y, layout.VX, layout.VY, layout.A, layout.B, layout.Hit, layout.Still, layout.BodyCells}
	for _, list := range [][]int{machine, player, body} {
		for want, got := range list {
			if got != want {
				t.Errorf("%v: %d is at %d", list, got, want)
			}
		}
	}
	if len(machine) != 14 || layout.Stack != 16 || layout.Vars != 32 || layout.Players != 48 {
		t.Error(layout.Stack, layout.Vars, layout.Players)
	}
}

func TestP12_2_Indices(t *testing.T) {
	for _, players := range []int{0, 1, 2, 7, 8, 9, 300} {
		for _, bodies := range []int{0, 1, 3, 24, 25, 100} {
			s := sized(players, bodies)
			if got, want := layout.Size(s), 48+4*players+8*bodies; got != want {
				t.Errorf("%d players, %d bodies: size %d, want %d", players, bodies, got, want)
			}
			for i := -3; i < 400; i++ {
				player, body := -1, -1
				if i >= 0 && i < players {
					player = 48 + 4*i
				}
				if i >= 0 && i < bodies {
					body = 48 + 4*players + 8*i
				}
				if p, b := layout.Player(s, i), layout.Body(s, i); p != player || b != body {
					t.Errorf("%d players, %d bodies: player and body %d at %d, %d, want %d, %d", players, bodies, i, p, b, player, body)
				}
			}
			for _, i := range []int{math.MinInt, math.MinInt + 1, math.MaxInt, 1 << 32, 1 << 61, 1 << 62, -1 << 32} {
				if p, b := layout.Player(s, i), layout.Body(s, i); p != -1 || b != -1 {
					t.Errorf("player and body %d at %d, %d", i, p, b)
				}
			}
		}
	}
}

func TestP12_2_Fields(t *testing.T) {
	for offset, name := range strings.Fields("x y vx vy a b hit still") {
		if got := layout.Field(name); got != offset {
			t.Errorf("%s: %d, want %d", name, got, offset)
		}
		for _, other := range []string{strings.ToUpper(name), name + " ", " " + name, name + "x", name + "\x00"} {
			if got := layout.Field(other); got != -1 {
				t.Errorf("%q: %d", other, got)
			}
		}
	}
	for _, name := range []string{"", "z", "v", "xy", "score", "act", "dx", "tick", "self", "other", "hits", "stil", "\xff", strings.Repeat("x", 1000)} {
		if got := layout.Field(name); got != -1 {
			t.Errorf("%q: %d", name, got)
		}
	}
}

func TestP12_3_Initial(t *testing.T) {
	want := make([]int, 80)
	copy(want[56:], []int{1, -2, 3, -4, 6, -7, 0, 0, -21, 22, -23, 24, -26, 27, 0, 0, 31, 32, 33, 34, 36, 37, 0, 0})
	if got := layout.Initial(setup()); !slices.Equal(got, want) {
		t.Errorf("%v, want %v", got, want)
	}
	for _, players := range []int{0, 1, 8, 1000} {
		for _, bodies := range []int{0, 1, 24, 200} {
			s := sized(players, bodies)
			cells := layout.Initial(s)
			want := make([]int, 48+4*players)
			for i := range bodies {
				k := 10 * (i + 1)
				want = append(want, k, -k-1, k+2, -k-3, k+5, -k-6, 0, 0)
			}
			if !slices.Equal(cells, want) {
				t.Errorf("%d players, %d bodies: %v", players, bodies, cells)
			}
		}
	}
}

func TestP12_3_InitialOfInvalid(t *testing.T) {
	s := sized(1, 2)
	s.Bodies[1] = api.Body{Motion: api.Motion{Pos: api.Vec{X: math.MinInt, Y: math.MaxInt}, Vel: api.Vec{X: math.MaxInt, Y: math.MinInt}, InvMass: -1}, A: math.MaxInt, B: math.MinInt}
	got := layout.Initial(s)[60:]
	if !slices.Equal(got, []int{math.MinInt, math.MaxInt, math.MaxInt, math.MinInt, math.MaxInt, math.MinInt, 0, 0}) {
		t.Error(got)
	}
}

func TestP12_3_Motion(t *testing.T) {
	s := setup()
	cells := make([]int, 80)
	for i := range cells {
		cells[i] = 1000 + i
	}
	for i := range 3 {
		at := 56 + 8*i
		want := api.Motion{Pos: api.Vec{X: 1000 + at, Y: 1001 + at}, Vel: api.Vec{X: 1002 + at, Y: 1003 + at}, InvMass: s.Bodies[i].Motion.InvMass}
		for n := range 81 {
			wanted := want
			if n < at+8 {
				wanted = api.Motion{}
			}
			if got := layout.Motion(s, cells[:n], i); got != wanted {
				t.Errorf("body %d, %d cells: %v, want %v", i, n, got, wanted)
			}
		}
		if got := layout.Motion(s, append(slices.Clone(cells), 1, 2, 3), i); got != want {
			t.Errorf("body %d, more cells: %v, want %v", i, got, want)
		}
	}
	for _, i := range []int{-1, 3, 4, math.MinInt, math.MaxInt, 1 << 61, 1 << 32, -1 << 32} {
		if got := layout.Motion(s, cells, i); got != (api.Motion{}) {
			t.Errorf("body %d: %v", i, got)
		}
	}
	if got := layout.Motion(s, nil, 0); got != (api.Motion{}) {
		t.Errorf("no cells: %v", got)
	}
}

func TestP12_4_Partition(t *testing.T) {
	for _, players := range []int{0, 1, 2, 5, 8} {
		for _, bodies := range []int{0, 1, 8, 24} {
			s := sized(players, bodies)
			owners := make([]int, layout.Size(s))
			own := func(first, n int) {
				for i := range n {
					owners[first+i]++
				}
			}
			own(layout.Tick, 14)
			own(layout.Stack, api.StackSize)
			own(layout.Vars, api.MaxVars)
			for p := range players {
				own(layout.Player(s, p), layout.PlayerCells)
			}
			for i := range bodies {
				own(layout.Body(s, i), layout.BodyCells)
			}
			for i, n := range owners {
				if unused := i == 14 || i == 15; unused != (n == 0) || n > 1 {
					t.Errorf("%d players, %d bodies: cell %d has %d owners", players, bodies, i, n)
				}
			}
		}
	}
}

func TestP12_5_MotionsOfTheInitialState(t *testing.T) {
	r := rand.New(rand.NewSource(5))
	for range 200 {
		s := sized(r.Intn(10), r.Intn(30))
		for i := range s.Bodies {
			m := &s.Bodies[i].Motion
			m.Pos, m.Vel, m.InvMass = api.Vec{X: r.Int() - r.Int(), Y: r.Int() - r.Int()}, api.Vec{X: r.Int() - r.Int(), Y: r.Int() - r.Int()}, r.Int()
		}
		cells := layout.Initial(s)
		for i, b := range s.Bodies {
			if got := layout.Motion(s, cells, i); got != b.Motion {
				t.Fatalf("body %d: %v, want %v", i, got, b.Motion)
			}
		}
	}
}

func TestR1_ManyBodies(t *testing.T) {
	s := sized(1<<20, 1<<20)
	if n := layout.Size(s); n != 48+12<<20 {
		t.Error(n)
	}
	last := 1<<20 - 1
	if p, b := layout.Player(s, last), layout.Body(s, last); p != 48+4*last || b != 48+4<<20+8*last {
		t.Error(p, b)
	}
	if cells := layout.Initial(s); layout.Motion(s, cells, last) != s.Bodies[last].Motion || cells[len(cells)-4] != s.Bodies[last].A {
		t.Error(cells[len(cells)-8:])
	}
	if e := layout.Validate(s); e != api.ErrSetup {
		t.Error(e)
	}
}

func TestR4_ArgumentsStay(t *testing.T) {
	s := setup()
	spare := append(slices.Clone(s.Bodies), api.Body{A: 99})
	s.Bodies = spare[:3]
	cells := layout.Initial(s)
	mine := append(slices.Clone(cells), 77)
	layout.Validate(s)
	layout.Motion(s, mine[:80], 2)
	if mine[80] != 77 || !slices.Equal(mine[:80], cells) || spare[3].A != 99 {
		t.Error("an argument changed")
	}
	want := setup()
	for i, b := range s.Bodies {
		w := want.Bodies[i]
		if b.Motion != w.Motion || b.A != w.A || b.B != w.B || b.Shape.Radius != w.Shape.Radius || !slices.Equal(b.Shape.Poly, w.Shape.Poly) {
			t.Errorf("body %d changed", i)
		}
	}
	again := layout.Initial(s)
	clear(cells)
	if slices.Equal(again, cells) {
		t.Error("two results share memory")
	}
}

func TestR4_NilAndEmpty(t *testing.T) {
	s := setup()
	s.Rooms, s.Doors = nil, nil
	e := s
	e.Rooms, e.Doors = []api.Box{}, []api.Door{}
	if layout.Validate(s) != api.OK || layout.Validate(e) != api.OK {
		t.Error("no rooms")
	}
	s.Bodies, e.Bodies = nil, []api.Body{}
	if layout.Size(s) != 56 || layout.Size(e) != 56 || len(layout.Initial(s)) != 56 || len(layout.Initial(e)) != 56 || layout.Body(e, 0) != -1 {
		t.Error("no bodies")
	}
}
