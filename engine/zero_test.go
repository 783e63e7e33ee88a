package engine_test

import (
	"testing"

	"wainscot/api"
	"wainscot/bits"
	"wainscot/carry"
	"wainscot/cut"
	"wainscot/dir"
	"wainscot/disk"
	"wainscot/engine"
	"wainscot/extent"
	"wainscot/frame"
	"wainscot/ideal"
	"wainscot/level"
	"wainscot/load"
	"wainscot/lru"
	"wainscot/match"
	"wainscot/mips"
	"wainscot/pool"
	"wainscot/queue"
	"wainscot/sample"
	"wainscot/store"
	"wainscot/table"
)

// TestObjectsThatNobodyMade calls what there is on objects that were not made by their packages: each call ends, and none panics (rule 1).
func TestObjectsThatNobodyMade(t *testing.T) {
	item := api.Item{Data: make([]byte, 144)}
	var r bits.Reader
	r.Get(3)
	r.Rest()
	var f match.Finder
	f.At(0)
	for range f.Places(0) {
		t.Error("places of nothing")
	}
	var d disk.Disk
	d.Read(0)
	d.Write(0, make([]byte, 32))
	d.Flush()
	d.Fuse(0, -1)
	d.Corrupt(0, 0)
	d.Up()
	var m extent.Map
	m.Take(1)
	m.Claim(0, 1)
	m.Give(0, 1)
	m.Copy().Used()
	var list dir.Dir
	list.Get(api.Page{})
	list.With([]api.Entry{{Start: 2, Len: 1}})
	list.Bytes()
	store.Format(&d, 0, false)
	store.Open(&d)
	var s store.Store
	s.Commit([]api.Item{item})
	s.Read(api.Page{})
	s.Used()
	for range s.Pages() {
		t.Error("pages of nothing")
	}
	var p mips.Pyramid
	p.At(0, 0, 0)
	p.Texture()
	p.With(0, 0, 1, 1, make([]api.Colour, 1))
	cut.Page(&p, api.Page{})
	cut.Changed(&p, &p)
	carry.Update(&s, &p, &p)
	carry.Whole(&s)
	carry.In(&d, api.Texture{Texels: make([]api.Colour, 16)})
	ideal.Colour(&p, 0, 0, 0)
	var l lru.List
	l.Touch(0)
	l.Pin(0)
	l.Oldest()
	var places pool.Pool
	places.Put(api.Page{}, item.Data)
	places.Get(api.Page{})
	places.Touch(api.Page{})
	for range places.All() {
		t.Error("pages of nothing")
	}
	var tab table.Table
	tab.Set(api.Page{}, true)
	tab.Look(api.Page{})
	var q queue.Queue
	q.Add(api.Page{}, 1)
	q.Pop()
	q.Add(api.Page{}, 1)
	load.Run(&s, &places, &tab, &q, 5)
	sample.Fetch(sample.Source{Pool: &places, Table: &tab}, 0, 0, level.Choice{})
	frame.New(api.Config{W: 1, H: 1, Pool: 1, Queue: 1, Disk: 4}, &s)
	var v frame.View
	v.Frame(api.Mat{}, nil)
	v.Renew([]api.Item{item})
	v.There()
	var e engine.Engine
	e.Do(api.Step{Kind: api.Frame})
	e.Texture()
	e.There()
	e.Used()
}
