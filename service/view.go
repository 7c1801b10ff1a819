package service

import (
	"skywave/api"
	"skywave/code"
	"skywave/echo"
	"skywave/ray"
	"skywave/trace"
	"skywave/warn"
)

// antennas is the number of antennas, each of which has a frame of a sounding.
const antennas = 2

// echoesOf returns the echoes of a sounding, or the error of its name or its frames.
func (b *book) echoesOf(name string) ([]api.EchoItem, api.Errno) {
	s, e := found(b.sounds, name)
	if e = firstError(e, errorIf(len(s.Frames) < antennas, api.ErrGap)); e != api.OK {
		return nil, e
	}
	var lines [antennas]api.CodeLine
	for i := range lines {
		// There is no error, as a frame that cannot be compressed is not entered.
		lines[i], _ = code.Compressed(s.Frames[i], b.wave)
	}
	return echo.EchoesOf(b.echoes, api.EchoFrame{First: lines[0].Values, Second: lines[1].Values})
}

// corrected returns the path of an ionogram, or the error of its edits.
func (o office) corrected(g ionogram) (api.TracePath, api.Errno) {
	path, _, _ := trace.Cheapest(g.Gram, api.TraceRules{
		Tag:   api.TraceOrdinary,
		Miss:  o.Reading.Miss,
		Jump:  o.Reading.Jump,
		Limit: o.Reading.Limit,
		To:    len(g.Gram.Columns) - 1,
	})
	return trace.Corrected(g.Gram, path, g.Edits)
}

// pathOf returns the path of an ionogram whose edits were entered.
func (o office) pathOf(g ionogram) api.TracePath {
	path, _ := o.corrected(g)
	return path
}

// traceOf returns the trace of an ionogram whose edits were entered.
func (o office) traceOf(g ionogram) api.ProfileTrace {
	points, _ := trace.PointsOf(g.Gram, o.pathOf(g))
	height := func(row int) int { return o.Reading.Base + o.Reading.Row*row }
	return api.ProfileTrace{Points: converted(points, func(p api.TracePoint) api.ProfilePoint {
		pixel := api.Range{Lo: height(p.Delay.Lo), Hi: height(p.Delay.Hi)}
		return api.ProfilePoint{Frequency: p.Frequency, Pixel: pixel}
	})}
}

// productsOf returns all products that a station had.
func (b *book) productsOf(station string) []api.ServiceProduct {
	var list []api.ServiceProduct
	for _, p := range b.products {
		if p.Station == station {
			list = append(list, p.ServiceProduct)
		}
	}
	return list
}

// productOf returns the product of a station, or the error of its name or of its product.
func (b *book) productOf(station string) (api.ServiceProduct, api.Errno) {
	list := b.productsOf(station)
	e := firstError(b.stationError(station), errorIf(len(list) == 0, api.ErrGap))
	if e != api.OK {
		return api.ServiceProduct{}, e
	}
	return list[len(list)-1], api.OK
}

// newest returns the newest products, each at the place of the first one of its station.
func (b *book) newest() []product {
	var list []product
	for _, p := range b.products {
		if i := placeOf(list, p.Station); i >= 0 {
			list[i] = p
		} else {
			list = append(list, p)
		}
	}
	return list
}

// skyOver returns the sky over a station, or the error of its name, its product or the sky.
func (b *book) skyOver(station string) (api.RaySky, api.Errno) {
	p, e := b.productOf(station)
	if e != api.OK {
		return api.RaySky{}, e
	}
	sky := skyOf(p.Profile)
	if _, e := ray.CheckSky(sky); e != api.OK {
		return api.RaySky{}, e
	}
	return sky, api.OK
}

// skyOf returns the sky that is made of a profile.
func skyOf(p api.ProfileSky) api.RaySky {
	sky := api.RaySky{Height: p.Base}
	for _, slab := range p.Slabs {
		if slab.Thickness > 0 {
			sky.Slabs = append(sky.Slabs, api.RaySlab{Thickness: slab.Thickness, Square: slab.Square})
		}
	}
	return sky
}

// stateOf returns the state after the values of a warning.
func (o office) stateOf(w warning) api.WarnState {
	s, _ := warn.StateOf(o.rules[w.Name], w.Values)
	return s
}

// warningOf returns the state after the values of a warning, or the error of its name.
func (b *book) warningOf(name string) (api.WarnState, api.Errno) {
	w, e := found(b.warnings, name)
	if e != api.OK {
		return api.WarnState{}, e
	}
	return b.stateOf(w), api.OK
}

// pendingFor returns the warnings that are pending for a client, or the error of its name.
func (b *book) pendingFor(name string) ([]string, api.Errno) {
	c, e := found(b.clients, name)
	if e != api.OK {
		return nil, e
	}
	return warn.PendingIn(c.Link)
}
