/- Texts and objects that are the same field by field. -/
import Derived.Test.YthggafdfglojaaaS
import Derived.Deep.DeepCutAuto
namespace Go.Proofs.Ythggafdfglojaaa
open Go.RowKit
set_option maxRecDepth 100000
theorem two_old {w : World} {p : Addr} {v : Value} {o1 o2 : Obj} (h : w.cell? p = some v) : ((w.alloc o1).alloc o2).drew.cell? p = some v := cell_later (Below.refl _ _).drew (cell_old (cell_old h))
theorem text_inj {s t : ByteArray} (h : s.toList = t.toList) : s = t := by
  rw [ByteArray.toList_eq, ByteArray.toList_eq] at h
  have := Array.toList_inj.1 h
  cases s; cases t; simp_all
theorem ob_eq {o p : Ob} (h0 : o.cls = p.cls) (h1 : o.kind = p.kind) (h2 : o.slots = p.slots) (h3 : o.text = p.text) (h4 : o.bits = p.bits) (h5 : o.hash = p.hash) : o = p := by
  cases o; cases p; simp_all
end Go.Proofs.Ythggafdfglojaaa
