// Package calls holds the packages against the calls that the chapters list:
// where one is missing, or says something else, this does not build.
package calls

import (
	"testing"

	"conciliator/agent"
	"conciliator/api"
	"conciliator/back"
	"conciliator/client"
	"conciliator/code"
	"conciliator/comp"
	"conciliator/disk"
	"conciliator/frame"
	"conciliator/inv"
	"conciliator/json"
	"conciliator/lab"
	"conciliator/log"
	"conciliator/msg"
	"conciliator/net"
	"conciliator/op"
	"conciliator/path"
	"conciliator/proj"
	"conciliator/seq"
	"conciliator/snap"
	"conciliator/store"
	"conciliator/sum"
	"conciliator/text"
	"conciliator/turn"
	"conciliator/val"
	"conciliator/world"
)

var (
	// val
	_ func(v api.Val) bool                    = val.Sound
	_ func(a, b api.Val) bool                 = val.Same
	_ func(v api.Val) int                     = val.Weight
	_ func(v api.Val) int                     = val.Deep
	_ func(v api.Val) api.Val                 = val.Copy
	_ func(v api.Val, key string) (int, bool) = val.Field
	// json
	_ func(v api.Val) (string, api.Errno) = json.Encode
	_ func(s string) (api.Val, api.Errno) = json.Decode
	// path
	_ func(p []api.Step) bool                                       = path.Sound
	_ func(p, q []api.Step) bool                                    = path.Begins
	_ func(v api.Val, p []api.Step) (api.Val, api.Errno)            = path.Get
	_ func(v api.Val, p []api.Step, x api.Val) (api.Val, api.Errno) = path.Put
	// text
	_ func(s string) int                             = text.Len
	_ func(s string, c api.Comp) api.Errno           = text.Check
	_ func(s string, c api.Comp) (string, api.Errno) = text.Do
	_ func(a, b api.Comp, left bool) []api.Comp      = text.Turn
	// seq
	_ func(n int, c api.Comp) api.Errno                    = seq.Check
	_ func(l []api.Val, c api.Comp) ([]api.Val, api.Errno) = seq.Do
	_ func(i int, c api.Comp) (int, bool)                  = seq.At
	_ func(a, b api.Comp, left bool) []api.Comp            = seq.Turn
	// comp
	_ func(c api.Comp) bool                            = comp.Sound
	_ func(a, b api.Comp) bool                         = comp.Same
	_ func(c api.Comp) api.Comp                        = comp.Copy
	_ func(v api.Val, c api.Comp) api.Errno            = comp.Check
	_ func(v api.Val, c api.Comp) (api.Val, api.Errno) = comp.Do
	// turn
	_ func(a, b api.Comp, left bool) []api.Comp = turn.Turn
	// op
	_ func(v api.Val, op []api.Comp) api.Errno            = op.Check
	_ func(v api.Val, op []api.Comp) (api.Val, api.Errno) = op.Do
	_ func(a, b []api.Comp) ([]api.Comp, []api.Comp)      = op.Cross
	_ func(a, b []api.Comp) []api.Comp                    = op.Join
	_ func(op []api.Comp) []api.Comp                      = op.Trim
	// inv
	_ func(v api.Val, c api.Comp) (api.Comp, api.Errno)      = inv.Turned
	_ func(v api.Val, op []api.Comp) ([]api.Comp, api.Errno) = inv.All
	// code
	_ func(e api.Entry) bool                = code.Sound
	_ func(e api.Entry) ([]byte, api.Errno) = code.Encode
	_ func(v api.Val) ([]byte, api.Errno)   = code.Value
	_ func(b []byte) (api.Entry, api.Errno) = code.Decode
	_ func(b []byte) (api.Val, api.Errno)   = code.Back
	// sum
	_ func(b ...[]byte) uint32 = sum.Sum
	// frame
	_ func(b []byte) ([]byte, api.Errno)      = frame.Wrap
	_ func(b []byte) ([]byte, int, api.Errno) = frame.Open
	_ func(b []byte) ([][]byte, int)          = frame.Scan
	// disk
	_ func(room int) *disk.Disk                           = disk.New
	_ func(d *disk.Disk, name string, b []byte) api.Errno = (*disk.Disk).Append
	_ func(d *disk.Disk, name string) api.Errno           = (*disk.Disk).Sync
	_ func(d *disk.Disk, name string) ([]byte, api.Errno) = (*disk.Disk).Read
	_ func(d *disk.Disk, name string, n int) api.Errno    = (*disk.Disk).Cut
	_ func(d *disk.Disk, name string) api.Errno           = (*disk.Disk).Drop
	_ func(d *disk.Disk) []string                         = (*disk.Disk).Names
	_ func(d *disk.Disk) int                              = (*disk.Disk).Used
	_ func(d *disk.Disk, on bool)                         = (*disk.Disk).Full
	_ func(d *disk.Disk, calls int)                       = (*disk.Disk).Halt
	_ func(d *disk.Disk) bool                             = (*disk.Disk).Halted
	_ func(d *disk.Disk, keep int)                        = (*disk.Disk).Crash
	// log
	_ func(d *disk.Disk, name string) (*log.Log, []api.Entry, api.Errno) = log.Open
	_ func(l *log.Log, e api.Entry) api.Errno                            = (*log.Log).Append
	_ func(l *log.Log) int                                               = (*log.Log).Len
	// snap
	_ func(d *disk.Disk, name string, s snap.Shot) api.Errno = snap.Save
	_ func(d *disk.Disk, name string) (snap.Shot, bool)      = snap.Load
	// store
	_ func(d *disk.Disk, every int) (*store.Store, api.Errno)             = store.Open
	_ func(v api.Val, there bool, e api.Entry) (api.Val, bool, api.Errno) = store.Fold
	_ func(s *store.Store, name string, e api.Entry) api.Errno            = (*store.Store).Commit
	_ func(s *store.Store) []string                                       = (*store.Store).Names
	_ func(s *store.Store, name string) int                               = (*store.Store).Version
	_ func(s *store.Store, name string) (api.Val, bool)                   = (*store.Store).Value
	_ func(s *store.Store, name string, n int) (api.Val, bool, api.Errno) = (*store.Store).At
	_ func(s *store.Store, name string) []api.Entry                       = (*store.Store).Entries
	// back
	_ func(d *disk.Disk, every int) (*back.Back, api.Errno)                   = back.Open
	_ func(e api.Entry, behind []api.Entry) (api.Entry, api.Errno)            = back.Late
	_ func(b *back.Back, name string, base int, e api.Entry) (int, api.Errno) = (*back.Back).Submit
	_ func(b *back.Back, name string, from, to int) ([]api.Entry, api.Errno)  = (*back.Back).Ops
	_ func(b *back.Back) *store.Store                                         = (*back.Back).Store
	// proj
	_ func(fields []string) bool                   = proj.Sound
	_ func(v api.Val, fields []string) api.Val     = proj.Val
	_ func(e api.Entry, fields []string) api.Entry = proj.Entry
	_ func(e api.Entry, fields []string) bool      = proj.Within
	// msg
	_ func(m api.Msg) bool                = msg.Sound
	_ func(m api.Msg) ([]byte, api.Errno) = msg.Encode
	_ func(b []byte) (api.Msg, api.Errno) = msg.Decode
	// net
	_ func() *net.Net                          = net.New
	_ func(n *net.Net, m api.Mail) bool        = (*net.Net).Send
	_ func(n *net.Net, i int) (api.Mail, bool) = (*net.Net).Take
	_ func(n *net.Net, i int) bool             = (*net.Net).Drop
	_ func(n *net.Net, i int) bool             = (*net.Net).Twice
	_ func(n *net.Net, i int) bool             = (*net.Net).Late
	_ func(n *net.Net, sess int) int           = (*net.Net).Cut
	_ func(n *net.Net) []api.Mail              = (*net.Net).All
	// client
	_ func(src uint32, doc string, fields []string) *client.Client = client.New
	_ func(c *client.Client) api.State                             = (*client.Client).State
	_ func(c *client.Client) (api.Val, bool)                       = (*client.Client).View
	_ func(c *client.Client, op []api.Comp) ([][]byte, api.Errno)  = (*client.Client).Edit
	_ func(c *client.Client, v api.Val) ([][]byte, api.Errno)      = (*client.Client).Create
	_ func(c *client.Client) ([][]byte, api.Errno)                 = (*client.Client).Delete
	_ func(c *client.Client) [][]byte                              = (*client.Client).Again
	_ func(c *client.Client, b []byte) ([][]byte, api.Errno)       = (*client.Client).Take
	// agent
	_ func(b *back.Back) *agent.Agent                                  = agent.New
	_ func(a *agent.Agent, sess int, b []byte) ([]api.Mail, api.Errno) = (*agent.Agent).Take
	_ func(a *agent.Agent, sess int)                                   = (*agent.Agent).Drop
	_ func(a *agent.Agent, sess int, doc string) (int, bool)           = (*agent.Agent).Wants
	_ func(a *agent.Agent) *back.Back                                  = (*agent.Agent).Back
	// world
	_ func(room, every int, fields [][]string) (*world.World, api.Errno) = world.New
	_ func(w *world.World, i int, op []api.Comp) api.Errno               = (*world.World).Edit
	_ func(w *world.World, i int, v api.Val) api.Errno                   = (*world.World).Create
	_ func(w *world.World, i int) api.Errno                              = (*world.World).Delete
	_ func(w *world.World, k int) api.Errno                              = (*world.World).Deliver
	_ func(w *world.World, i int) api.Errno                              = (*world.World).Tick
	_ func(w *world.World, i int) api.Errno                              = (*world.World).Link
	_ func(w *world.World, keep int) api.Errno                           = (*world.World).Crash
	_ func(w *world.World, i int) *client.Client                         = (*world.World).Client
	_ func(w *world.World) *agent.Agent                                  = (*world.World).Agent
	_ func(w *world.World) *disk.Disk                                    = (*world.World).Disk
	_ func(w *world.World) *net.Net                                      = (*world.World).Net
	// lab
	_ func(script string) string = lab.Play
)

func TestShot(t *testing.T) {
	s := struct {
		N     int
		There bool
		V     api.Val
	}(snap.Shot{N: 3, There: true, V: api.Val{Kind: api.Int, N: 7}})
	if s.N != 3 || !s.There || s.V.N != 7 {
		t.Error("a Shot's fields are others")
	}
}
