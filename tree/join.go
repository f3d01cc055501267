package tree

import "mortise/api"

// counted are the places of what counts in a list, rising: of each name the first that is not weak, else the first.
func counted(list []symbol) []int {
	best := make(map[string]int, len(list))
	for i, s := range list {
		was, is := best[s.name]
		if !is || list[was].weak && !s.weak {
			best[s.name] = i
		}
	}
	places := make([]int, 0, len(best))
	for i, s := range list {
		if best[s.name] == i {
			places = append(places, i)
		}
	}
	return places
}

type symbol struct {
	name string
	weak bool
}

// join puts modules together: their functions are numbered, their datas laid.
func (r *runner) join(ms []api.Module) {
	r.take(ms)
	datas := datasOf(ms)
	r.lay(datas)
	// Behind all laying, since a word may name datas that lie behind it.
	for _, d := range datas {
		for _, ref := range d.Refs {
			r.mem[r.places[d.Name]+ref.At] = r.named(ref.Name)
		}
	}
}

// take numbers the functions that count.
func (r *runner) take(ms []api.Module) {
	var all []*api.MFunc
	var names []symbol
	for i := range ms {
		for j := range ms[i].Funcs {
			f := &ms[i].Funcs[j]
			all = append(all, f)
			names = append(names, symbol{f.Name, f.Weak})
		}
	}
	r.numbers = make(map[string]int)
	for _, i := range counted(names) {
		r.funcs = append(r.funcs, all[i])
		r.numbers[all[i].Name] = len(r.funcs)
	}
}

// datasOf are the datas that count.
func datasOf(ms []api.Module) []*api.MData {
	var all []*api.MData
	var names []symbol
	for i := range ms {
		for j := range ms[i].Datas {
			d := &ms[i].Datas[j]
			all = append(all, d)
			names = append(names, symbol{d.Name, d.Weak})
		}
	}
	var datas []*api.MData
	for _, i := range counted(names) {
		datas = append(datas, all[i])
	}
	return datas
}

func (r *runner) lay(datas []*api.MData) {
	r.places = make(map[string]int)
	for _, d := range datas {
		r.places[d.Name] = int(r.alloc(int64(len(d.Words))))
		copy(r.mem[r.places[d.Name]:], d.Words)
	}
}

// named is the word at a Ref: where no one has that name it is 0, and nobody's.
func (r *runner) named(name string) int64 {
	if at, is := r.places[name]; is {
		return int64(at)
	}
	return int64(r.numbers[name])
}
