/- The law ZsetLaws answers true at every argument. -/
import Derived.Test.YtkamnepbgbficaaDoorZSmall
namespace Go.Proofs.YtkamnepbgbficaaDoor
open Go.RowKit Go.Sort
set_option maxRecDepth 100000

set_option maxHeartbeats 8000000 in
theorem zlaws_main (a : Option Addr) (len cap : Nat) (zs : List Int) (a' : Option Addr) (len' cap' : Nat) (zs' : List Int) (a'' : Option Addr) (len'' cap'' : Nat) (zs'' : List Int)
    (h1 : (len : Int) ≤ 100) (h2 : (len' : Int) ≤ 100) (h3 : (len'' : Int) ≤ 100) (ad : Addr) (w : World) (ho : OverAt ad w) (ha : IsRow .i64 w a len cap zs) (ha' : IsRow .i64 w a' len' cap' zs') (ha'' : IsRow .i64 w a'' len'' cap'' zs'') :
    Calls Tryd.prog 4 #[.slice a len cap, .slice a' len' cap', .slice a'' len'' cap''] w fun e w' => e = .returned (.bool true) ∧ Below w.heap.size w w' := by
  have Ha : Hid (IsRow .i64 w a len cap zs) := ha
  have Ha' : Hid (IsRow .i64 w a' len' cap' zs') := ha'
  have Ha'' : Hid (IsRow .i64 w a'' len'' cap'' zs'') := ha''
  have HO : Hid (∀ W, Below w.heap.size w W → OverAt ad W) := fun W hW => ho.on hW
  have qf := lawFirst3 ad w ho
  clear ha ha' ha'' ho
  go_enter Tryd.func4, Tryd.ntmps4
  go_wp2_with fail
  refine qf.mono ?_
  rintro e w1 ⟨rfl, hb⟩
  have B : Hid (Below w.heap.size w w1) := hb
  clear hb qf
  go_wp2_with fail
  refine (setNew (Ha.out.below B.out) 1 3 (by decide) (by decide)).mono ?_
  rintro e w2 ⟨va, la, rfl, sa, ea, hb⟩
  have Sa : Hid (SmZ 1000 la) := sa
  have Na : Hid (EntsIs w2 va la) := ea
  clear sa ea
  have B' : Hid (Below w.heap.size w w2) := B.out.trans (hb.mono B.out.size)
  clear hb B 
  have B : Hid (Below w.heap.size w w2) := B'.out
  clear B' 
  have Ea : Hid (EntsIs w2 va la) := Na.out
  clear Na
  go_wp2_with fail
  refine (setNew (Ha'.out.below B.out) 1 3 (by decide) (by decide)).mono ?_
  rintro e w3 ⟨vb, lb, rfl, sb, eb, hb⟩
  have Sb : Hid (SmZ 1000 lb) := sb
  have Nb : Hid (EntsIs w3 vb lb) := eb
  clear sb eb
  have B' : Hid (Below w.heap.size w w3) := B.out.trans (hb.mono B.out.size)
  have Ea' : Hid (EntsIs w3 va la) := Ea.out.on hb
  clear hb B Ea
  have B : Hid (Below w.heap.size w w3) := B'.out
  have Ea : Hid (EntsIs w3 va la) := Ea'.out
  clear B' Ea'
  have Eb : Hid (EntsIs w3 vb lb) := Nb.out
  clear Nb
  go_wp2_with fail
  refine (setNew (Ha''.out.below B.out) 1 3 (by decide) (by decide)).mono ?_
  rintro e w4 ⟨vc, lc, rfl, sc, ec, hb⟩
  have Sc : Hid (SmZ 1000 lc) := sc
  have Nc : Hid (EntsIs w4 vc lc) := ec
  clear sc ec
  have B' : Hid (Below w.heap.size w w4) := B.out.trans (hb.mono B.out.size)
  have Ea' : Hid (EntsIs w4 va la) := Ea.out.on hb
  have Eb' : Hid (EntsIs w4 vb lb) := Eb.out.on hb
  clear hb B Ea Eb
  have B : Hid (Below w.heap.size w w4) := B'.out
  have Ea : Hid (EntsIs w4 va la) := Ea'.out
  have Eb : Hid (EntsIs w4 vb lb) := Eb'.out
  clear B' Ea' Eb'
  have Ec : Hid (EntsIs w4 vc lc) := Nc.out
  clear Nc
  go_wp2_with fail
  refine (nAdd Sa.out Sb.out (by decide) va vb ad _ (HO.out _ B.out) Ea.out Eb.out).mono ?_
  rintro e w5 ⟨vx, lx, rfl, ex, sx, tx, hb⟩
  have Sx : Hid (SmZ 2000 lx) := sx
  have Tx : Hid (∀ r, wt r lx = wt r la + wt r lb) := tx
  have Nx : Hid (EntsIs w5 vx lx) := ex
  clear sx ex tx
  have B' : Hid (Below w.heap.size w w5) := B.out.trans (hb.mono B.out.size)
  have Ea' : Hid (EntsIs w5 va la) := Ea.out.on hb
  have Eb' : Hid (EntsIs w5 vb lb) := Eb.out.on hb
  have Ec' : Hid (EntsIs w5 vc lc) := Ec.out.on hb
  clear hb B Ea Eb Ec
  have B : Hid (Below w.heap.size w w5) := B'.out
  have Ea : Hid (EntsIs w5 va la) := Ea'.out
  have Eb : Hid (EntsIs w5 vb lb) := Eb'.out
  have Ec : Hid (EntsIs w5 vc lc) := Ec'.out
  clear B' Ea' Eb' Ec'
  have Ex : Hid (EntsIs w5 vx lx) := Nx.out
  clear Nx
  go_wp2_with fail
  refine (nAdd Sb.out Sa.out (by decide) vb va ad _ (HO.out _ B.out) Eb.out Ea.out).mono ?_
  rintro e w6 ⟨vy, ly, rfl, ey, sy, ty, hb⟩
  have Sy : Hid (SmZ 2000 ly) := sy
  have Ty : Hid (∀ r, wt r ly = wt r lb + wt r la) := ty
  have Ny : Hid (EntsIs w6 vy ly) := ey
  clear sy ey ty
  have B' : Hid (Below w.heap.size w w6) := B.out.trans (hb.mono B.out.size)
  have Ea' : Hid (EntsIs w6 va la) := Ea.out.on hb
  have Eb' : Hid (EntsIs w6 vb lb) := Eb.out.on hb
  have Ec' : Hid (EntsIs w6 vc lc) := Ec.out.on hb
  have Ex' : Hid (EntsIs w6 vx lx) := Ex.out.on hb
  clear hb B Ea Eb Ec Ex
  have B : Hid (Below w.heap.size w w6) := B'.out
  have Ea : Hid (EntsIs w6 va la) := Ea'.out
  have Eb : Hid (EntsIs w6 vb lb) := Eb'.out
  have Ec : Hid (EntsIs w6 vc lc) := Ec'.out
  have Ex : Hid (EntsIs w6 vx lx) := Ex'.out
  clear B' Ea' Eb' Ec' Ex'
  have Ey : Hid (EntsIs w6 vy ly) := Ny.out
  clear Ny
  go_wp2_with fail
  refine (nAdd Sx.out Sc.out (by decide) vx vc ad _ (HO.out _ B.out) Ex.out Ec.out).mono ?_
  rintro e w7 ⟨vz, lz, rfl, ez, sz, tz, hb⟩
  have Sz : Hid (SmZ 3000 lz) := sz
  have Tz : Hid (∀ r, wt r lz = wt r lx + wt r lc) := tz
  have Nz : Hid (EntsIs w7 vz lz) := ez
  clear sz ez tz
  have B' : Hid (Below w.heap.size w w7) := B.out.trans (hb.mono B.out.size)
  have Ea' : Hid (EntsIs w7 va la) := Ea.out.on hb
  have Eb' : Hid (EntsIs w7 vb lb) := Eb.out.on hb
  have Ec' : Hid (EntsIs w7 vc lc) := Ec.out.on hb
  have Ex' : Hid (EntsIs w7 vx lx) := Ex.out.on hb
  have Ey' : Hid (EntsIs w7 vy ly) := Ey.out.on hb
  clear hb B Ea Eb Ec Ex Ey
  have B : Hid (Below w.heap.size w w7) := B'.out
  have Ea : Hid (EntsIs w7 va la) := Ea'.out
  have Eb : Hid (EntsIs w7 vb lb) := Eb'.out
  have Ec : Hid (EntsIs w7 vc lc) := Ec'.out
  have Ex : Hid (EntsIs w7 vx lx) := Ex'.out
  have Ey : Hid (EntsIs w7 vy ly) := Ey'.out
  clear B' Ea' Eb' Ec' Ex' Ey'
  have Ez : Hid (EntsIs w7 vz lz) := Nz.out
  clear Nz
  go_wp2_with fail
  refine (nAdd Sb.out Sc.out (by decide) vb vc ad _ (HO.out _ B.out) Eb.out Ec.out).mono ?_
  rintro e w8 ⟨vw, lw, rfl, ew, sw, tw, hb⟩
  have Sw : Hid (SmZ 2000 lw) := sw
  have Tw : Hid (∀ r, wt r lw = wt r lb + wt r lc) := tw
  have Nw : Hid (EntsIs w8 vw lw) := ew
  clear sw ew tw
  have B' : Hid (Below w.heap.size w w8) := B.out.trans (hb.mono B.out.size)
  have Ea' : Hid (EntsIs w8 va la) := Ea.out.on hb
  have Eb' : Hid (EntsIs w8 vb lb) := Eb.out.on hb
  have Ec' : Hid (EntsIs w8 vc lc) := Ec.out.on hb
  have Ex' : Hid (EntsIs w8 vx lx) := Ex.out.on hb
  have Ey' : Hid (EntsIs w8 vy ly) := Ey.out.on hb
  have Ez' : Hid (EntsIs w8 vz lz) := Ez.out.on hb
  clear hb B Ea Eb Ec Ex Ey Ez
  have B : Hid (Below w.heap.size w w8) := B'.out
  have Ea : Hid (EntsIs w8 va la) := Ea'.out
  have Eb : Hid (EntsIs w8 vb lb) := Eb'.out
  have Ec : Hid (EntsIs w8 vc lc) := Ec'.out
  have Ex : Hid (EntsIs w8 vx lx) := Ex'.out
  have Ey : Hid (EntsIs w8 vy ly) := Ey'.out
  have Ez : Hid (EntsIs w8 vz lz) := Ez'.out
  clear B' Ea' Eb' Ec' Ex' Ey' Ez'
  have Ew : Hid (EntsIs w8 vw lw) := Nw.out
  clear Nw
  go_wp2_with fail
  refine (nAdd Sa.out Sw.out (by decide) va vw ad _ (HO.out _ B.out) Ea.out Ew.out).mono ?_
  rintro e w9 ⟨vv, lv, rfl, ev, sv, tv, hb⟩
  have Sv : Hid (SmZ 3000 lv) := sv
  have Tv : Hid (∀ r, wt r lv = wt r la + wt r lw) := tv
  have Nv : Hid (EntsIs w9 vv lv) := ev
  clear sv ev tv
  have B' : Hid (Below w.heap.size w w9) := B.out.trans (hb.mono B.out.size)
  have Ea' : Hid (EntsIs w9 va la) := Ea.out.on hb
  have Eb' : Hid (EntsIs w9 vb lb) := Eb.out.on hb
  have Ec' : Hid (EntsIs w9 vc lc) := Ec.out.on hb
  have Ex' : Hid (EntsIs w9 vx lx) := Ex.out.on hb
  have Ey' : Hid (EntsIs w9 vy ly) := Ey.out.on hb
  have Ez' : Hid (EntsIs w9 vz lz) := Ez.out.on hb
  have Ew' : Hid (EntsIs w9 vw lw) := Ew.out.on hb
  clear hb B Ea Eb Ec Ex Ey Ez Ew
  have B : Hid (Below w.heap.size w w9) := B'.out
  have Ea : Hid (EntsIs w9 va la) := Ea'.out
  have Eb : Hid (EntsIs w9 vb lb) := Eb'.out
  have Ec : Hid (EntsIs w9 vc lc) := Ec'.out
  have Ex : Hid (EntsIs w9 vx lx) := Ex'.out
  have Ey : Hid (EntsIs w9 vy ly) := Ey'.out
  have Ez : Hid (EntsIs w9 vz lz) := Ez'.out
  have Ew : Hid (EntsIs w9 vw lw) := Ew'.out
  clear B' Ea' Eb' Ec' Ex' Ey' Ez' Ew'
  have Ev : Hid (EntsIs w9 vv lv) := Nv.out
  clear Nv
  go_wp2_with fail
  refine (nSub Sx.out Sb.out (by decide) vx vb ad _ (HO.out _ B.out) Ex.out Eb.out).mono ?_
  rintro e w10 ⟨vu, lu, rfl, eu, su, tu, hb⟩
  have Su : Hid (SmZ 3000 lu) := su
  have Tu : Hid (∀ r, wt r lu = wt r lx - wt r lb) := tu
  have Nu : Hid (EntsIs w10 vu lu) := eu
  clear su eu tu
  have B' : Hid (Below w.heap.size w w10) := B.out.trans (hb.mono B.out.size)
  have Ea' : Hid (EntsIs w10 va la) := Ea.out.on hb
  have Eb' : Hid (EntsIs w10 vb lb) := Eb.out.on hb
  have Ec' : Hid (EntsIs w10 vc lc) := Ec.out.on hb
  have Ex' : Hid (EntsIs w10 vx lx) := Ex.out.on hb
  have Ey' : Hid (EntsIs w10 vy ly) := Ey.out.on hb
  have Ez' : Hid (EntsIs w10 vz lz) := Ez.out.on hb
  have Ew' : Hid (EntsIs w10 vw lw) := Ew.out.on hb
  have Ev' : Hid (EntsIs w10 vv lv) := Ev.out.on hb
  clear hb B Ea Eb Ec Ex Ey Ez Ew Ev
  have B : Hid (Below w.heap.size w w10) := B'.out
  have Ea : Hid (EntsIs w10 va la) := Ea'.out
  have Eb : Hid (EntsIs w10 vb lb) := Eb'.out
  have Ec : Hid (EntsIs w10 vc lc) := Ec'.out
  have Ex : Hid (EntsIs w10 vx lx) := Ex'.out
  have Ey : Hid (EntsIs w10 vy ly) := Ey'.out
  have Ez : Hid (EntsIs w10 vz lz) := Ez'.out
  have Ew : Hid (EntsIs w10 vw lw) := Ew'.out
  have Ev : Hid (EntsIs w10 vv lv) := Ev'.out
  clear B' Ea' Eb' Ec' Ex' Ey' Ez' Ew' Ev'
  have Eu : Hid (EntsIs w10 vu lu) := Nu.out
  clear Nu
  go_wp2_with fail
  refine (nNeg Sa.out (by decide) va ad _ (HO.out _ B.out) Ea.out).mono ?_
  rintro e w11 ⟨vt, lt, rfl, et, st, tt, hb⟩
  have St : Hid (SmZ 1000 lt) := st
  have Tt : Hid (∀ r, wt r lt = - wt r la) := tt
  have Nt : Hid (EntsIs w11 vt lt) := et
  clear st et tt
  have B' : Hid (Below w.heap.size w w11) := B.out.trans (hb.mono B.out.size)
  have Ea' : Hid (EntsIs w11 va la) := Ea.out.on hb
  have Eb' : Hid (EntsIs w11 vb lb) := Eb.out.on hb
  have Ec' : Hid (EntsIs w11 vc lc) := Ec.out.on hb
  have Ex' : Hid (EntsIs w11 vx lx) := Ex.out.on hb
  have Ey' : Hid (EntsIs w11 vy ly) := Ey.out.on hb
  have Ez' : Hid (EntsIs w11 vz lz) := Ez.out.on hb
  have Ew' : Hid (EntsIs w11 vw lw) := Ew.out.on hb
  have Ev' : Hid (EntsIs w11 vv lv) := Ev.out.on hb
  have Eu' : Hid (EntsIs w11 vu lu) := Eu.out.on hb
  clear hb B Ea Eb Ec Ex Ey Ez Ew Ev Eu
  have B : Hid (Below w.heap.size w w11) := B'.out
  have Ea : Hid (EntsIs w11 va la) := Ea'.out
  have Eb : Hid (EntsIs w11 vb lb) := Eb'.out
  have Ec : Hid (EntsIs w11 vc lc) := Ec'.out
  have Ex : Hid (EntsIs w11 vx lx) := Ex'.out
  have Ey : Hid (EntsIs w11 vy ly) := Ey'.out
  have Ez : Hid (EntsIs w11 vz lz) := Ez'.out
  have Ew : Hid (EntsIs w11 vw lw) := Ew'.out
  have Ev : Hid (EntsIs w11 vv lv) := Ev'.out
  have Eu : Hid (EntsIs w11 vu lu) := Eu'.out
  clear B' Ea' Eb' Ec' Ex' Ey' Ez' Ew' Ev' Eu'
  have Et : Hid (EntsIs w11 vt lt) := Nt.out
  clear Nt
  go_wp2_with fail
  refine (nAdd Sa.out St.out (by decide) va vt ad _ (HO.out _ B.out) Ea.out Et.out).mono ?_
  rintro e w12 ⟨vs, ls, rfl, es, ss, ts, hb⟩
  have Ss : Hid (SmZ 2000 ls) := ss
  have Ts : Hid (∀ r, wt r ls = wt r la + wt r lt) := ts
  have Ns : Hid (EntsIs w12 vs ls) := es
  clear ss es ts
  have B' : Hid (Below w.heap.size w w12) := B.out.trans (hb.mono B.out.size)
  have Ea' : Hid (EntsIs w12 va la) := Ea.out.on hb
  have Eb' : Hid (EntsIs w12 vb lb) := Eb.out.on hb
  have Ec' : Hid (EntsIs w12 vc lc) := Ec.out.on hb
  have Ex' : Hid (EntsIs w12 vx lx) := Ex.out.on hb
  have Ey' : Hid (EntsIs w12 vy ly) := Ey.out.on hb
  have Ez' : Hid (EntsIs w12 vz lz) := Ez.out.on hb
  have Ew' : Hid (EntsIs w12 vw lw) := Ew.out.on hb
  have Ev' : Hid (EntsIs w12 vv lv) := Ev.out.on hb
  have Eu' : Hid (EntsIs w12 vu lu) := Eu.out.on hb
  have Et' : Hid (EntsIs w12 vt lt) := Et.out.on hb
  clear hb B Ea Eb Ec Ex Ey Ez Ew Ev Eu Et
  have B : Hid (Below w.heap.size w w12) := B'.out
  have Ea : Hid (EntsIs w12 va la) := Ea'.out
  have Eb : Hid (EntsIs w12 vb lb) := Eb'.out
  have Ec : Hid (EntsIs w12 vc lc) := Ec'.out
  have Ex : Hid (EntsIs w12 vx lx) := Ex'.out
  have Ey : Hid (EntsIs w12 vy ly) := Ey'.out
  have Ez : Hid (EntsIs w12 vz lz) := Ez'.out
  have Ew : Hid (EntsIs w12 vw lw) := Ew'.out
  have Ev : Hid (EntsIs w12 vv lv) := Ev'.out
  have Eu : Hid (EntsIs w12 vu lu) := Eu'.out
  have Et : Hid (EntsIs w12 vt lt) := Et'.out
  clear B' Ea' Eb' Ec' Ex' Ey' Ez' Ew' Ev' Eu' Et'
  have Es : Hid (EntsIs w12 vs ls) := Ns.out
  clear Ns
  go_wp2_with fail
  refine (nAdd Sa.out (SmZ.nil 0) (by decide) va (.slice none 0 0) ad _ (HO.out _ B.out) Ea.out (EntsIs.nil _ _ _)).mono ?_
  rintro e w13 ⟨vo, lo, rfl, eo, so, to, hb⟩
  have So : Hid (SmZ 1000 lo) := so
  have To : Hid (∀ r, wt r lo = wt r la + wt r []) := to
  have No : Hid (EntsIs w13 vo lo) := eo
  clear so eo to
  have B' : Hid (Below w.heap.size w w13) := B.out.trans (hb.mono B.out.size)
  have Ea' : Hid (EntsIs w13 va la) := Ea.out.on hb
  have Eb' : Hid (EntsIs w13 vb lb) := Eb.out.on hb
  have Ec' : Hid (EntsIs w13 vc lc) := Ec.out.on hb
  have Ex' : Hid (EntsIs w13 vx lx) := Ex.out.on hb
  have Ey' : Hid (EntsIs w13 vy ly) := Ey.out.on hb
  have Ez' : Hid (EntsIs w13 vz lz) := Ez.out.on hb
  have Ew' : Hid (EntsIs w13 vw lw) := Ew.out.on hb
  have Ev' : Hid (EntsIs w13 vv lv) := Ev.out.on hb
  have Eu' : Hid (EntsIs w13 vu lu) := Eu.out.on hb
  have Et' : Hid (EntsIs w13 vt lt) := Et.out.on hb
  have Es' : Hid (EntsIs w13 vs ls) := Es.out.on hb
  clear hb B Ea Eb Ec Ex Ey Ez Ew Ev Eu Et Es
  have B : Hid (Below w.heap.size w w13) := B'.out
  have Ea : Hid (EntsIs w13 va la) := Ea'.out
  have Eb : Hid (EntsIs w13 vb lb) := Eb'.out
  have Ec : Hid (EntsIs w13 vc lc) := Ec'.out
  have Ex : Hid (EntsIs w13 vx lx) := Ex'.out
  have Ey : Hid (EntsIs w13 vy ly) := Ey'.out
  have Ez : Hid (EntsIs w13 vz lz) := Ez'.out
  have Ew : Hid (EntsIs w13 vw lw) := Ew'.out
  have Ev : Hid (EntsIs w13 vv lv) := Ev'.out
  have Eu : Hid (EntsIs w13 vu lu) := Eu'.out
  have Et : Hid (EntsIs w13 vt lt) := Et'.out
  have Es : Hid (EntsIs w13 vs ls) := Es'.out
  clear B' Ea' Eb' Ec' Ex' Ey' Ez' Ew' Ev' Eu' Et' Es'
  have Eo : Hid (EntsIs w13 vo lo) := No.out
  clear No
  have Exy : Hid (lx = ly) := smz_eq Sx.out Sy.out (fun r => by rw [Tx.out, Ty.out]; omega)
  have Ezv : Hid (lz = lv) := smz_eq Sz.out Sv.out (fun r => by rw [Tz.out, Tx.out, Tv.out, Tw.out]; omega)
  have Eua : Hid (lu = la) := smz_eq Su.out Sa.out (fun r => by rw [Tu.out, Tx.out]; omega)
  have Eoa : Hid (lo = la) := smz_eq So.out Sa.out (fun r => by rw [To.out]; simp [wt])
  have Es0 : ls = [] := smz_eq Ss.out (SmZ.nil 0) (fun r => by rw [Ts.out, Tt.out]; simp [wt]; omega)
  subst Es0
  obtain ⟨as0, cs, hvs⟩ := Es.out.form
  simp only [List.length_nil] at hvs
  subst hvs
  clear Tx Ty Tz Tw Tv Tu Tt Ts To Et Es Ew Eb Ec Sb Sc St Sw Ss
  go_wp2_with fail
  refine (pSame Sx.out Sy.out (by decide) Exy.out vx vy _ Ex.out Ey.out).mono ?_
  rintro e w14 ⟨rfl, hb⟩
  have B' : Hid (Below w.heap.size w w14) := B.out.trans (hb.mono B.out.size)
  have Ea' : Hid (EntsIs w14 va la) := Ea.out.on hb
  have Ex' : Hid (EntsIs w14 vx lx) := Ex.out.on hb
  have Ey' : Hid (EntsIs w14 vy ly) := Ey.out.on hb
  have Ez' : Hid (EntsIs w14 vz lz) := Ez.out.on hb
  have Ev' : Hid (EntsIs w14 vv lv) := Ev.out.on hb
  have Eu' : Hid (EntsIs w14 vu lu) := Eu.out.on hb
  have Eo' : Hid (EntsIs w14 vo lo) := Eo.out.on hb
  clear hb B Ea Ex Ey Ez Ev Eu Eo
  have B : Hid (Below w.heap.size w w14) := B'.out
  have Ea : Hid (EntsIs w14 va la) := Ea'.out
  have Ex : Hid (EntsIs w14 vx lx) := Ex'.out
  have Ey : Hid (EntsIs w14 vy ly) := Ey'.out
  have Ez : Hid (EntsIs w14 vz lz) := Ez'.out
  have Ev : Hid (EntsIs w14 vv lv) := Ev'.out
  have Eu : Hid (EntsIs w14 vu lu) := Eu'.out
  have Eo : Hid (EntsIs w14 vo lo) := Eo'.out
  clear B' Ea' Ex' Ey' Ez' Ev' Eu' Eo'
  go_wp2_with fail
  refine (pSame Sz.out Sv.out (by decide) Ezv.out vz vv _ Ez.out Ev.out).mono ?_
  rintro e w15 ⟨rfl, hb⟩
  have B' : Hid (Below w.heap.size w w15) := B.out.trans (hb.mono B.out.size)
  have Ea' : Hid (EntsIs w15 va la) := Ea.out.on hb
  have Ex' : Hid (EntsIs w15 vx lx) := Ex.out.on hb
  have Ey' : Hid (EntsIs w15 vy ly) := Ey.out.on hb
  have Ez' : Hid (EntsIs w15 vz lz) := Ez.out.on hb
  have Ev' : Hid (EntsIs w15 vv lv) := Ev.out.on hb
  have Eu' : Hid (EntsIs w15 vu lu) := Eu.out.on hb
  have Eo' : Hid (EntsIs w15 vo lo) := Eo.out.on hb
  clear hb B Ea Ex Ey Ez Ev Eu Eo
  have B : Hid (Below w.heap.size w w15) := B'.out
  have Ea : Hid (EntsIs w15 va la) := Ea'.out
  have Ex : Hid (EntsIs w15 vx lx) := Ex'.out
  have Ey : Hid (EntsIs w15 vy ly) := Ey'.out
  have Ez : Hid (EntsIs w15 vz lz) := Ez'.out
  have Ev : Hid (EntsIs w15 vv lv) := Ev'.out
  have Eu : Hid (EntsIs w15 vu lu) := Eu'.out
  have Eo : Hid (EntsIs w15 vo lo) := Eo'.out
  clear B' Ea' Ex' Ey' Ez' Ev' Eu' Eo'
  go_wp2_with fail
  refine (pSame Su.out Sa.out (by decide) Eua.out vu va _ Eu.out Ea.out).mono ?_
  rintro e w16 ⟨rfl, hb⟩
  have B' : Hid (Below w.heap.size w w16) := B.out.trans (hb.mono B.out.size)
  have Ea' : Hid (EntsIs w16 va la) := Ea.out.on hb
  have Ex' : Hid (EntsIs w16 vx lx) := Ex.out.on hb
  have Ey' : Hid (EntsIs w16 vy ly) := Ey.out.on hb
  have Ez' : Hid (EntsIs w16 vz lz) := Ez.out.on hb
  have Ev' : Hid (EntsIs w16 vv lv) := Ev.out.on hb
  have Eu' : Hid (EntsIs w16 vu lu) := Eu.out.on hb
  have Eo' : Hid (EntsIs w16 vo lo) := Eo.out.on hb
  clear hb B Ea Ex Ey Ez Ev Eu Eo
  have B : Hid (Below w.heap.size w w16) := B'.out
  have Ea : Hid (EntsIs w16 va la) := Ea'.out
  have Ex : Hid (EntsIs w16 vx lx) := Ex'.out
  have Ey : Hid (EntsIs w16 vy ly) := Ey'.out
  have Ez : Hid (EntsIs w16 vz lz) := Ez'.out
  have Ev : Hid (EntsIs w16 vv lv) := Ev'.out
  have Eu : Hid (EntsIs w16 vu lu) := Eu'.out
  have Eo : Hid (EntsIs w16 vo lo) := Eo'.out
  clear B' Ea' Ex' Ey' Ez' Ev' Eu' Eo'
  go_wp2_with fail
  refine (pSame So.out Sa.out (by decide) Eoa.out vo va _ Eo.out Ea.out).mono ?_
  rintro e w17 ⟨rfl, hb⟩
  have B' : Hid (Below w.heap.size w w17) := B.out.trans (hb.mono B.out.size)
  have Ea' : Hid (EntsIs w17 va la) := Ea.out.on hb
  have Ex' : Hid (EntsIs w17 vx lx) := Ex.out.on hb
  have Ey' : Hid (EntsIs w17 vy ly) := Ey.out.on hb
  have Ez' : Hid (EntsIs w17 vz lz) := Ez.out.on hb
  have Ev' : Hid (EntsIs w17 vv lv) := Ev.out.on hb
  have Eu' : Hid (EntsIs w17 vu lu) := Eu.out.on hb
  have Eo' : Hid (EntsIs w17 vo lo) := Eo.out.on hb
  clear hb B Ea Ex Ey Ez Ev Eu Eo
  have B : Hid (Below w.heap.size w w17) := B'.out
  have Ea : Hid (EntsIs w17 va la) := Ea'.out
  have Ex : Hid (EntsIs w17 vx lx) := Ex'.out
  have Ey : Hid (EntsIs w17 vy ly) := Ey'.out
  have Ez : Hid (EntsIs w17 vz lz) := Ez'.out
  have Ev : Hid (EntsIs w17 vv lv) := Ev'.out
  have Eu : Hid (EntsIs w17 vu lu) := Eu'.out
  have Eo : Hid (EntsIs w17 vo lo) := Eo'.out
  clear B' Ea' Ex' Ey' Ez' Ev' Eu' Eo'
  go_wp2_with fail
  refine (pCheck Sx.out (by decide) vx _ Ex.out).mono ?_
  rintro e w18 ⟨rfl, hb⟩
  have B' : Hid (Below w.heap.size w w18) := B.out.trans (hb.mono B.out.size)
  have Ea' : Hid (EntsIs w18 va la) := Ea.out.on hb
  have Ex' : Hid (EntsIs w18 vx lx) := Ex.out.on hb
  have Ey' : Hid (EntsIs w18 vy ly) := Ey.out.on hb
  have Ez' : Hid (EntsIs w18 vz lz) := Ez.out.on hb
  have Ev' : Hid (EntsIs w18 vv lv) := Ev.out.on hb
  have Eu' : Hid (EntsIs w18 vu lu) := Eu.out.on hb
  have Eo' : Hid (EntsIs w18 vo lo) := Eo.out.on hb
  clear hb B Ea Ex Ey Ez Ev Eu Eo
  have B : Hid (Below w.heap.size w w18) := B'.out
  have Ea : Hid (EntsIs w18 va la) := Ea'.out
  have Ex : Hid (EntsIs w18 vx lx) := Ex'.out
  have Ey : Hid (EntsIs w18 vy ly) := Ey'.out
  have Ez : Hid (EntsIs w18 vz lz) := Ez'.out
  have Ev : Hid (EntsIs w18 vv lv) := Ev'.out
  have Eu : Hid (EntsIs w18 vu lu) := Eu'.out
  have Eo : Hid (EntsIs w18 vo lo) := Eo'.out
  clear B' Ea' Ex' Ey' Ez' Ev' Eu' Eo'
  go_wp2_with fail
  refine (pCheck Sz.out (by decide) vz _ Ez.out).mono ?_
  rintro e w19 ⟨rfl, hb⟩
  have B' : Hid (Below w.heap.size w w19) := B.out.trans (hb.mono B.out.size)
  have Ea' : Hid (EntsIs w19 va la) := Ea.out.on hb
  have Ex' : Hid (EntsIs w19 vx lx) := Ex.out.on hb
  have Ey' : Hid (EntsIs w19 vy ly) := Ey.out.on hb
  have Ez' : Hid (EntsIs w19 vz lz) := Ez.out.on hb
  have Ev' : Hid (EntsIs w19 vv lv) := Ev.out.on hb
  have Eu' : Hid (EntsIs w19 vu lu) := Eu.out.on hb
  have Eo' : Hid (EntsIs w19 vo lo) := Eo.out.on hb
  clear hb B Ea Ex Ey Ez Ev Eu Eo
  have B : Hid (Below w.heap.size w w19) := B'.out
  have Ea : Hid (EntsIs w19 va la) := Ea'.out
  have Ex : Hid (EntsIs w19 vx lx) := Ex'.out
  have Ey : Hid (EntsIs w19 vy ly) := Ey'.out
  have Ez : Hid (EntsIs w19 vz lz) := Ez'.out
  have Ev : Hid (EntsIs w19 vv lv) := Ev'.out
  have Eu : Hid (EntsIs w19 vu lu) := Eu'.out
  have Eo : Hid (EntsIs w19 vo lo) := Eo'.out
  clear B' Ea' Ex' Ey' Ez' Ev' Eu' Eo'
  go_wp2_with fail
  go_ret
  exact ⟨rfl, B.out⟩
set_option maxHeartbeats 1000000 in
theorem zlaws_long (a : Option Addr) (len cap : Nat) (a' : Option Addr) (len' cap' : Nat) (a'' : Option Addr) (len'' cap'' : Nat) (ad : Addr) (w : World) (ho : OverAt ad w)
    (h : 100 < (len : Int) ∨ ((len : Int) ≤ 100 ∧ 100 < (len' : Int)) ∨ ((len : Int) ≤ 100 ∧ (len' : Int) ≤ 100 ∧ 100 < (len'' : Int))) :
    Calls Tryd.prog 4 #[.slice a len cap, .slice a' len' cap', .slice a'' len'' cap''] w fun e w' => e = .returned (.bool true) ∧ Below w.heap.size w w' := by
  rcases h with h | ⟨h1, h⟩ | ⟨h1, h2, h⟩
  all_goals
    go_enter Tryd.func4, Tryd.ntmps4
    go_wp2_with fail
    refine (lawFirst3 ad _ ho).mono ?_
    rintro e w1 ⟨rfl, hb1⟩
    go_wp2_with fail
    go_ret
    exact ⟨rfl, hb1⟩
/-- ZsetLaws; its error is asked of the world besides. -/
theorem zsetLaws_walk (a : Option Addr) (len cap : Nat) (zs : List Int) (a' : Option Addr) (len' cap' : Nat) (zs' : List Int) (a'' : Option Addr) (len'' cap'' : Nat) (zs'' : List Int)
    (w : World) (ho : ∃ ad, OverAt ad w) (ha : IsRow .i64 w a len cap zs) (ha' : IsRow .i64 w a' len' cap' zs') (ha'' : IsRow .i64 w a'' len'' cap'' zs'') :
    Calls Tryd.prog 4 #[.slice a len cap, .slice a' len' cap', .slice a'' len'' cap''] w fun e w' => e = .returned (.bool true) ∧ Below w.heap.size w w' := by
  obtain ⟨ad, ho⟩ := ho
  by_cases h : (len : Int) ≤ 100 ∧ (len' : Int) ≤ 100 ∧ (len'' : Int) ≤ 100
  · exact zlaws_main a len cap zs a' len' cap' zs' a'' len'' cap'' zs'' h.1 h.2.1 h.2.2 ad w ho ha ha' ha''
  · exact zlaws_long a len cap a' len' cap' a'' len'' cap'' ad w ho (by omega)
end Go.Proofs.YtkamnepbgbficaaDoor
