/-
  A text of this claim: JoWrite.
-/
import Derived.Test.YtimllihegnokeaaGreatDoorQ7
import Derived.Test.YtimllihegnokeaaGreatDoorQ8
import Derived.Test.YtimllihegnokeaaGreatDoorQ2
import Derived.Deep.Cut
import Derived.Deep.WholeRow
import Derived.Deep.CutRange
import Derived.Deep.RegionHeld3
namespace Go.Proofs.YtimllihegnokeaaGreatDoor.Jo
open Go.ChangeShapes Go.WideShapes Go.ChangeAt Go.RowKit Ov Va Ex Ev
theorem Blk.lo {w w' : World} {b lo : Nat} {xs : List Value} (h : Blk w b xs) (hb : b < lo) (k : Below lo w w') : Blk w' b xs :=
 ⟨fun i v hv => (k.cell (p := ⟨b, i, none⟩) hb).trans (h.c i v hv), fun i v hv => (k.frozen (p := ⟨b, i, none⟩) hb).trans (h.f i v hv), Nat.lt_of_lt_of_le h.lt k.size⟩
structure Ws (w0 : World) (xs : List Value) (b : Nat) (l : List UInt8) (x : Int) (w : World) : Prop where
 jb : Blk w w0.heap.size xs
 wr : Wr b l x w
 be : Below w0.heap.size w0 w
 lo : w0.heap.size < b
section
variable {w0 w w' : World} {xs : List Value} {b : Nat} {l l' : List UInt8} {x y : Int}
theorem Ws.next (h : Ws w0 xs b l x w) (k : Below w.heap.size w w') : Ws w0 xs b l x w' := ⟨h.jb.next k, h.wr.next k, Below.next h.be k, h.lo⟩
theorem Ws.step (h : Ws w0 xs b l x w) (hw : Wr b l' y w') (k : Below b w w') : Ws w0 xs b l' y w' := ⟨Blk.lo h.jb h.lo k, hw, h.be.trans (k.mono (Nat.le_of_lt h.lo)), h.lo⟩
theorem Ws.setx (h : Ws w0 xs b l x w) (y : Int) : Ws w0 xs b l y (w.setCell ⟨b + 1, 0, none⟩ (.int .i64 y)) :=
 ⟨h.jb.put (show b + 1 ≠ w0.heap.size by have := h.lo; omega) 0 _, h.wr.setx y, h.be.setCell (p := ⟨b + 1, 0, none⟩) (show w0.heap.size ≤ b + 1 by have := h.lo; omega) _, h.lo⟩
theorem Ws.cast (h : Ws w0 xs b l x w) (e : l = l') : Ws w0 xs b l' x w := e ▸ h
theorem store_fn {P : Program} (w : World) (t : TypeId) (u v : Value) (n : Nat) (hn : n = w.heap.size) (h1 : v.oneCell' = true) : Sem.run P (store ⟨n, 0, none⟩ v) (w.alloc (.cells #[u] t)) = .ok () (w.alloc (.cells #[v] t)) := by
 subst hn
 have hst := run_store P (w.alloc (.cells #[u] t)) ⟨w.heap.size, 0, none⟩ v .plain h1
 have hb := Blk.made w t [u] rfl
 rw [hb.c 0 u rfl] at hst
 simp only [hb.f 0 u rfl] at hst
 rw [hst]
 have e := World.setCell_alloc_at (w := w) #[u] t w.heap.size 0 v rfl
 simp only [Bool.false_eq_true, if_false]
 rw [e]; rfl
theorem Ws.start {w1 : World} (hj : Blk w1 w0.heap.size xs) (hb : Below w0.heap.size w0 w1) (hb0 : w1.heap.size = b) : Ws w0 xs b [] 0 (((w1.alloc (.cells #[.pointer none, .slice none 0 0] 61)).alloc (.cells #[.int .i64 0] 27)).alloc (.cells #[.func (.func 23) #[] #[.pointer (some ⟨w1.heap.size, 0, none⟩)]] 68)) := by
 subst hb0
 have hlt := hj.lt
 have k1 := box1 w1 (.cells #[.pointer none, .slice none 0 0] 61)
 have k2 := box2 w1 (.cells #[.pointer none, .slice none 0 0] 61) (.cells #[.int .i64 0] 27)
 have k3 := box3 w1 (.cells #[.pointer none, .slice none 0 0] 61) (.cells #[.int .i64 0] 27) (.cells #[.func (.func 23) #[] #[.pointer (some ⟨w1.heap.size, 0, none⟩)]] 68)
 refine ⟨hj.next k3, ⟨?_, ?_, ?_⟩, Below.next hb k3, hlt⟩
 · exact (BldF.fresh w1).old (box2 _ _ _)
 · have e : (w1.alloc (.cells #[.pointer none, .slice none 0 0] 61)).heap.size = w1.heap.size + 1 := World.size_alloc _ _
   rw [(box1 ((w1.alloc (.cells #[.pointer none, .slice none 0 0] 61)).alloc (.cells #[.int .i64 0] 27)) _).block _ (by simp), ← e]
   exact heap_alloc_last _ _
 · have e : ((w1.alloc (.cells #[.pointer none, .slice none 0 0] 61)).alloc (.cells #[.int .i64 0] 27)).heap.size = w1.heap.size + 1 + 1 := by simp
   rw [← e]
   exact heap_alloc_last _ _
end
theorem fld_any (s : ByteArray) (w : World) : Sem.run Tryz.prog (Instr.field 74 (.agg #[.string s]) 0) w = .ok (.string s) w := by
 unfold Instr.field
 simp
 kernel_rfl
attribute [local simp] fld_any
set_option maxHeartbeats 1000000 in
theorem write_bad (j : Jb) (A1 : Option Addr) (c1 : Nat) (A2 : Option Addr) (c2 : Nat) (A3 : Option Addr) (c3 : Nat) (w : World) (hj : JL w j A1 A2 A3) (hk : KM w) (hl : j.nm.length ≤ 9223372036854775807) (h0 : jr j ≠ 0) : Calls Tryz.prog 10 #[.agg #[.string (tx j.nm), .int .i64 j.t, .int .i64 j.p, .int .i64 j.k, .int .i64 j.n, .int .i64 j.f, .slice A1 j.m.length c1, .slice A2 j.b.length c2, .slice A3 j.r.length c3, .string (tx j.fd), .bool j.cb]] w (Gives (.tuple #[.string ⟨#[]⟩, .int .i64 (jr j)]) w) := by
 have HR := Lib.hid (fun w1 (h : Below w.heap.size w w1) => right_any j A1 c1 A2 c2 A3 c3 w1 (hj.next h) (hk.next h) hl)
 have hne : (jr j == 0) = false := beq_eq_false_iff_ne.2 h0
 clear h0 hj hk
 generalize jr j = x at *
 have HJ := Lib.hid (made11 w 32 (.string (tx j.nm)) (.int .i64 j.t) (.int .i64 j.p) (.int .i64 j.k) (.int .i64 j.n) (.int .i64 j.f) (.slice A1 j.m.length c1) (.slice A2 j.b.length c2) (.slice A3 j.r.length c3) (.string (tx j.fd)) (.bool j.cb))
 have HB := Lib.hid (box1 w (.cells #[.string (tx j.nm), .int .i64 j.t, .int .i64 j.p, .int .i64 j.k, .int .i64 j.n, .int .i64 j.f, .slice A1 j.m.length c1, .slice A2 j.b.length c2, .slice A3 j.r.length c3, .string (tx j.fd), .bool j.cb] 32))
 go_enter Tryz.func10, Tryz.ntmps10
 obtain ⟨e0, e1, e2, e3, e4, e5, e6, e7, e8, e9, e10⟩ := elev HJ.out
 go_wp2_with (fail)
 clear e0 e1 e2 e3 e4 e5 e6 e7 e8 e9 e10
 refine (HR.out _ HB.out).mono ?_
 rintro e w1 ⟨rfl, hb⟩
 replace HB := Lib.hid (Below.next HB.out hb); clear hb HJ
 go_wp2_with (fail)
 exact bodyPost_ret (v := .tuple #[.string ⟨#[]⟩, .int .i64 x]) (by simp [results, Tryz.results10, go_sem]) rfl ⟨rfl, HB.out⟩
set_option maxHeartbeats 4000000 in
set_option maxRecDepth 100000 in
theorem write_ok (j : Jb) (A1 : Option Addr) (c1 : Nat) (A2 : Option Addr) (c2 : Nat) (A3 : Option Addr) (c3 : Nat) (w : World) (hj : JL w j A1 A2 A3) (hk : KM w) (ht : Tab w) (h0 : jr j = 0) (hc1 : j.m.length ≤ c1) (hc2 : j.b.length ≤ c2) (hc3 : j.r.length ≤ c3) : Calls Tryz.prog 10 #[.agg #[.string (tx j.nm), .int .i64 j.t, .int .i64 j.p, .int .i64 j.k, .int .i64 j.n, .int .i64 j.f, .slice A1 j.m.length c1, .slice A2 j.b.length c2, .slice A3 j.r.length c3, .string (tx j.fd), .bool j.cb]] w (Gives (.tuple #[.string (tx (jwq j).1), .int .i64 (jwq j).2]) w) := by
 have HLN := Lib.hid (lens h0)
 have HR := Lib.hid (fun w1 (h : Below w.heap.size w w1) => right_any j A1 c1 A2 c2 A3 c3 w1 (hj.next h) (hk.next h) (by have := (lens h0).n; omega))
 rw [h0] at HR
 have hnum := numOk_in (jr_zero h0).2.1
 have HT1 := Lib.hid (fun w1 (h : Below w.heap.size w w1) => itoa_any j.t (by omega) (by omega) w1 (ht.next h))
 have HT2 := Lib.hid (fun w1 (h : Below w.heap.size w w1) => itoa_any j.p (by omega) (by omega) w1 (ht.next h))
 have HT3 := Lib.hid (fun w1 (h : Below w.heap.size w w1) => itoa_any j.k (by omega) (by omega) w1 (ht.next h))
 have HT4 := Lib.hid (fun w1 (h : Below w.heap.size w w1) => itoa_any j.n (by omega) (by omega) w1 (ht.next h))
 have HT5 := Lib.hid (fun w1 (h : Below w.heap.size w w1) => itoa_any j.f (by omega) (by omega) w1 (ht.next h))
 have HJL := Lib.hid hj; have HK := Lib.hid hk; have HT := Lib.hid ht
 have HEQ : Hid (jwq j = if x8 j = 0 then (if 4096 < (w9 j).length then ([], 3) else (w9 j, 0)) else ([], x8 j)) := by
  show _ = _
  unfold jwq; rw [if_neg (by omega)]
 clear h0 hj hk ht hnum
 have HJ := Lib.hid (made11 w 32 (.string (tx j.nm)) (.int .i64 j.t) (.int .i64 j.p) (.int .i64 j.k) (.int .i64 j.n) (.int .i64 j.f) (.slice A1 j.m.length c1) (.slice A2 j.b.length c2) (.slice A3 j.r.length c3) (.string (tx j.fd)) (.bool j.cb))
 have HB := Lib.hid (box1 w (.cells #[.string (tx j.nm), .int .i64 j.t, .int .i64 j.p, .int .i64 j.k, .int .i64 j.n, .int .i64 j.f, .slice A1 j.m.length c1, .slice A2 j.b.length c2, .slice A3 j.r.length c3, .string (tx j.fd), .bool j.cb] 32))
 go_enter Tryz.func10, Tryz.ntmps10
 obtain ⟨e0, e1, e2, e3, e4, e5, e6, e7, e8, e9, e10⟩ := elev HJ.out
 go_wp2_with (fail)
 clear e0 e1 e2 e3 e4 e5 e6 e7 e8 e9 e10
 refine (HR.out _ HB.out).mono ?_
 rintro e z1 ⟨rfl, hb⟩
 have HS := Lib.hid (Ws.start (HJ.out.next hb) (Below.next HB.out hb) rfl)
 clear hb HJ HB HR
 have hst := store_fn (P := Tryz.prog) ((z1.alloc (.cells #[.pointer none, .slice none 0 0] 61)).alloc (.cells #[.int .i64 0] 27)) 68 .nilFunc (.func (.func 23) #[] #[.pointer (some ⟨z1.heap.size, 0, none⟩)]) (z1.heap.size + 1 + 1) (by simp) rfl
 go_upto_region 8 with fail
 clear hst
 generalize ((z1.alloc (.cells #[.pointer none, .slice none 0 0] 61)).alloc (.cells #[.int .i64 0] 27)).alloc (.cells #[.func (.func 23) #[] #[.pointer (some ⟨z1.heap.size, 0, none⟩)]] 68) = v at *
 generalize z1.heap.size = b at *
 have c0 := HS.out.wr.func
 have d0 := HS.out.jb.c 0 _ rfl
 go_wp2_with (fail)
 clear c0 d0
 have hsz : ([] : List UInt8).length + (⟨#[106, 111, 98]⟩ : ByteArray).size + (tx j.nm).size ≤ 1000000 := by
  have e : (⟨#[106, 111, 98]⟩ : ByteArray).size = 3 := rfl
  rw [e]
  simp only [tx_size, List.length_nil]
  have := HLN.out.n
  omega
 refine (putw2 ⟨#[106, 111, 98]⟩ (tx j.nm) HS.out.wr hsz).mono ?_
 rintro e u2 ⟨rfl, hw, hb⟩
 replace HS := Lib.hid ((HS.out.step hw hb).cast (l' := w1 j) (by simp only [tx_list]; rfl))
 clear hw hb hsz
 go_upto_region 9 with fail
 have hsz : (w1 j).length + (⟨#[116, 97, 115, 107, 115]⟩ : ByteArray).size + (tx (Lib.itoa j.t)).size ≤ 1000000 := by
  have e : (⟨#[116, 97, 115, 107, 115]⟩ : ByteArray).size = 5 := rfl
  rw [e]
  simp only [tx_size]
  have := HLN.out.t
  have := HLN.out.l1
  omega
 have d0 := HS.out.wr.func; have d1 := HS.out.jb.c 1 _ rfl
 have hlo := HS.out.wr.lt
 go_region_held3 (fun w' => w'.cell? ⟨b + 1 + 1, 0, none⟩ = some (.func (.func 23) #[] #[.pointer (some ⟨b, 0, none⟩)]) ∧ w'.cell? ⟨w.heap.size, 1, none⟩ = some (.int .i64 j.t)) (go_keep)
  (first
  | (go_at_call 23
     refine (putw2 ⟨#[116, 97, 115, 107, 115]⟩ (tx (Lib.itoa j.t)) HY1.out.wr hsz).mono ?_
     rintro e u3 ⟨rfl, hw, hb⟩
     have HZ := Lib.hid ((HY1.out.step hw hb).cast (l' := w2 j) (by simp only [tx_list]; rfl))
     clear hw hb
     have r0 := HZ.out.wr.func; have r1 := HZ.out.jb.c 1 _ rfl)
  | (go_at_call 29
     refine (HT1.out _ (HS.out.next (below_drewN (Below.refl _ _) 1)).be).mono ?_
     rintro e y1 ⟨rfl, hb⟩
     have HY1 := Lib.hid ((HS.out.next (below_drewN (Below.refl _ _) 1)).next hb)
     clear hb
     have p0 := HY1.out.wr.func; have p1 := HY1.out.jb.c 1 _ rfl))
 rename_i hHd
 clear hHd hsz hlo d0 d1 p0 p1 r0 r1 HY1
 replace HS := HZ
 clear HZ
 go_upto_region 10 with fail
 have hsz : (w2 j).length + (⟨#[112, 97, 114, 116, 115]⟩ : ByteArray).size + (tx (Lib.itoa j.p)).size ≤ 1000000 := by
  have e : (⟨#[112, 97, 114, 116, 115]⟩ : ByteArray).size = 5 := rfl
  rw [e]
  simp only [tx_size]
  have := HLN.out.p
  have := HLN.out.l2
  omega
 have d0 := HS.out.wr.func; have d2 := HS.out.jb.c 2 _ rfl
 have hlo := HS.out.wr.lt
 go_region_held3 (fun w' => w'.cell? ⟨b + 1 + 1, 0, none⟩ = some (.func (.func 23) #[] #[.pointer (some ⟨b, 0, none⟩)]) ∧ w'.cell? ⟨w.heap.size, 2, none⟩ = some (.int .i64 j.p)) (go_keep)
  (first
  | (go_at_call 23
     refine (putw2 ⟨#[112, 97, 114, 116, 115]⟩ (tx (Lib.itoa j.p)) HY1.out.wr hsz).mono ?_
     rintro e u4 ⟨rfl, hw, hb⟩
     have HZ := Lib.hid ((HY1.out.step hw hb).cast (l' := w3 j) (by simp only [tx_list]; rfl))
     clear hw hb
     have r0 := HZ.out.wr.func; have r2 := HZ.out.jb.c 2 _ rfl)
  | (go_at_call 29
     refine (HT2.out _ (HS.out.next (below_drewN (Below.refl _ _) 1)).be).mono ?_
     rintro e y1 ⟨rfl, hb⟩
     have HY1 := Lib.hid ((HS.out.next (below_drewN (Below.refl _ _) 1)).next hb)
     clear hb
     have p0 := HY1.out.wr.func; have p2 := HY1.out.jb.c 2 _ rfl))
 rename_i hHd
 clear hHd hsz hlo d0 d2 p0 p2 r0 r2 HY1
 replace HS := HZ
 clear HZ
 go_upto_region 11 with fail
 have hsz : (w3 j).length + (⟨#[99, 111, 100, 101]⟩ : ByteArray).size + (tx (Lib.itoa j.k)).size + (tx (Lib.itoa j.n)).size ≤ 1000000 := by
  have e : (⟨#[99, 111, 100, 101]⟩ : ByteArray).size = 4 := rfl
  rw [e]
  simp only [tx_size]
  have := HLN.out.k
  have := HLN.out.m
  have := HLN.out.l3
  omega
 have d0 := HS.out.wr.func; have d3 := HS.out.jb.c 3 _ rfl; have d4 := HS.out.jb.c 4 _ rfl
 have hlo := HS.out.wr.lt
 go_region_held3 (fun w' => w'.cell? ⟨b + 1 + 1, 0, none⟩ = some (.func (.func 23) #[] #[.pointer (some ⟨b, 0, none⟩)]) ∧ w'.cell? ⟨w.heap.size, 3, none⟩ = some (.int .i64 j.k) ∧ w'.cell? ⟨w.heap.size, 4, none⟩ = some (.int .i64 j.n)) (go_keep)
  (first
  | (go_at_call 23
     refine (putw3 ⟨#[99, 111, 100, 101]⟩ (tx (Lib.itoa j.k)) (tx (Lib.itoa j.n)) HY2.out.wr hsz).mono ?_
     rintro e u5 ⟨rfl, hw, hb⟩
     have HZ := Lib.hid ((HY2.out.step hw hb).cast (l' := w4 j) (by simp only [tx_list]; rfl))
     clear hw hb
     have r0 := HZ.out.wr.func; have r3 := HZ.out.jb.c 3 _ rfl; have r4 := HZ.out.jb.c 4 _ rfl)
  | (go_at_call 29
     refine (HT4.out _ HY1.out.be).mono ?_
     rintro e y2 ⟨rfl, hb⟩
     have HY2 := Lib.hid (HY1.out.next hb)
     clear hb
     have q0 := HY2.out.wr.func; have q3 := HY2.out.jb.c 3 _ rfl; have q4 := HY2.out.jb.c 4 _ rfl)
  | (go_at_call 29
     refine (HT3.out _ (HS.out.next (below_drewN (Below.refl _ _) 1)).be).mono ?_
     rintro e y1 ⟨rfl, hb⟩
     have HY1 := Lib.hid ((HS.out.next (below_drewN (Below.refl _ _) 1)).next hb)
     clear hb
     have p0 := HY1.out.wr.func; have p3 := HY1.out.jb.c 3 _ rfl; have p4 := HY1.out.jb.c 4 _ rfl))
 rename_i hHd
 clear hHd hsz hlo d0 d3 d4 p0 p3 p4 q0 q3 q4 r0 r3 r4 HY1 HY2
 replace HS := HZ
 clear HZ
 go_upto_region 12 with fail
 have hsz : (w4 j).length + (⟨#[102, 117, 101, 108]⟩ : ByteArray).size + (tx (Lib.itoa j.f)).size ≤ 1000000 := by
  have e : (⟨#[102, 117, 101, 108]⟩ : ByteArray).size = 4 := rfl
  rw [e]
  simp only [tx_size]
  have := HLN.out.f
  have := HLN.out.l4
  omega
 have d0 := HS.out.wr.func; have d5 := HS.out.jb.c 5 _ rfl
 have hlo := HS.out.wr.lt
 go_region_held3 (fun w' => w'.cell? ⟨b + 1 + 1, 0, none⟩ = some (.func (.func 23) #[] #[.pointer (some ⟨b, 0, none⟩)]) ∧ w'.cell? ⟨w.heap.size, 5, none⟩ = some (.int .i64 j.f)) (go_keep)
  (first
  | (go_at_call 23
     refine (putw2 ⟨#[102, 117, 101, 108]⟩ (tx (Lib.itoa j.f)) HY1.out.wr hsz).mono ?_
     rintro e u6 ⟨rfl, hw, hb⟩
     have HZ := Lib.hid ((HY1.out.step hw hb).cast (l' := w5 j) (by simp only [tx_list]; rfl))
     clear hw hb
     have r0 := HZ.out.wr.func; have r5 := HZ.out.jb.c 5 _ rfl)
  | (go_at_call 29
     refine (HT5.out _ (HS.out.next (below_drewN (Below.refl _ _) 1)).be).mono ?_
     rintro e y1 ⟨rfl, hb⟩
     have HY1 := Lib.hid ((HS.out.next (below_drewN (Below.refl _ _) 1)).next hb)
     clear hb
     have p0 := HY1.out.wr.func; have p5 := HY1.out.jb.c 5 _ rfl))
 rename_i hHd
 clear hHd hsz hlo d0 d5 p0 p5 r0 r5 HY1
 replace HS := HZ
 clear HZ
 go_upto_region 13 with fail
 have d6 := HS.out.jb.c 6 _ rfl
 go_wp2_with (fail)
 clear d6
 have hsz : (w5 j).length + ([109, 97, 112] : List UInt8).length + (wq j.m).1.length ≤ 1000000 := by
  have := HLN.out.l5
  have := wq_len j.m
  simp only [List.length_cons, List.length_nil]
  omega
 refine (pute_any b (w5 j) 0 [109, 97, 112] j.m A1 c1 _ HS.out.wr (HJL.out.m.next HS.out.be) (HK.out.next HS.out.be) (HT.out.next HS.out.be) hc1 HJL.out.lm hsz (by have := HS.out.wr.lt; omega)).mono ?_
 rintro e u7 ⟨rfl, hw, hb⟩
 have HS2 : Hid (Ws w [.string (tx j.nm), .int .i64 j.t, .int .i64 j.p, .int .i64 j.k, .int .i64 j.n, .int .i64 j.f, .slice A1 j.m.length c1, .slice A2 j.b.length c2, .slice A3 j.r.length c3, .string (tx j.fd), .bool j.cb] b (w6 j) (x6 j) u7) := Lib.hid (by
  have h := HS.out.step hw hb
  exact h)
 replace HS := HS2
 clear hw hb hsz HS2
 have d7 := HS.out.jb.c 7 _ rfl
 go_upto_if 55 with (fail)
 clear d7
 go_cut [] from 55 to 59 (fun wx => Ws w [.string (tx j.nm), .int .i64 j.t, .int .i64 j.p, .int .i64 j.k, .int .i64 j.n, .int .i64 j.f, .slice A1 j.m.length c1, .slice A2 j.b.length c2, .slice A3 j.r.length c3, .string (tx j.fd), .bool j.cb] b (w7 j) (x7 j) wx)
 case first =>
  by_cases hb0 : j.b.length = 0
  · have h1 : decide (0 < j.b.length) = false := decide_eq_false (by omega)
    have HW : Hid (Ws w [.string (tx j.nm), .int .i64 j.t, .int .i64 j.p, .int .i64 j.k, .int .i64 j.n, .int .i64 j.f, .slice A1 j.m.length c1, .slice A2 j.b.length c2, .slice A3 j.r.length c3, .string (tx j.fd), .bool j.cb] b (w7 j) (x7 j) u7) := Lib.hid (by unfold w7 x7; rw [if_pos hb0, if_pos hb0]; exact HS.out)
    clear hb0
    rw [h1]
    go_wp2_with (fail)
    go_meet
    exact HW.out
  · have h1 : decide (0 < j.b.length) = true := decide_eq_true (by omega)
    have HB0 := Lib.hid hb0
    have d7 := HS.out.jb.c 7 _ rfl
    clear hb0
    rw [h1]
    go_wp2_with (fail)
    clear d7 h1
    have hsz : (w6 j).length + ([98, 121] : List UInt8).length + (wq j.b).1.length ≤ 1000000 := by
     have := HLN.out.l6
     have := wq_len j.b
     simp only [List.length_cons, List.length_nil]
     omega
    refine (pute_any b (w6 j) (x6 j) [98, 121] j.b A2 c2 _ HS.out.wr (HJL.out.b.next HS.out.be) (HK.out.next HS.out.be) (HT.out.next HS.out.be) hc2 HJL.out.lb hsz (by have := HS.out.wr.lt; omega)).mono ?_
    rintro e u8 ⟨rfl, hw, hb⟩
    have HS2 : Hid (Ws w [.string (tx j.nm), .int .i64 j.t, .int .i64 j.p, .int .i64 j.k, .int .i64 j.n, .int .i64 j.f, .slice A1 j.m.length c1, .slice A2 j.b.length c2, .slice A3 j.r.length c3, .string (tx j.fd), .bool j.cb] b (w7 j) (x7 j) u8) := Lib.hid (by
     have h := HS.out.step hw hb
     unfold w7 x7; rw [if_neg HB0.out, if_neg HB0.out]; exact h)
    replace HS := HS2
    clear hw hb hsz HS2
    go_wp2_with (fail)
    go_meet
    exact HS.out
 case rest =>
  clear HS
  have HS : Hid (Ws w [.string (tx j.nm), .int .i64 j.t, .int .i64 j.p, .int .i64 j.k, .int .i64 j.n, .int .i64 j.f, .slice A1 j.m.length c1, .slice A2 j.b.length c2, .slice A3 j.r.length c3, .string (tx j.fd), .bool j.cb] b (w7 j) (x7 j) wc) := Lib.hid hcut
  clear hcut
  generalize wc = u9 at *
  have d9 := HS.out.jb.c 9 _ rfl
  go_upto_if 62 with (fail)
  clear d9
  go_cut [] from 62 to 71 (fun wx => Ws w [.string (tx j.nm), .int .i64 j.t, .int .i64 j.p, .int .i64 j.k, .int .i64 j.n, .int .i64 j.f, .slice A1 j.m.length c1, .slice A2 j.b.length c2, .slice A3 j.r.length c3, .string (tx j.fd), .bool j.cb] b (w8 j) (x8 j) wx)
  case first =>
   by_cases hf0 : j.fd.isEmpty = true
   · have h1 : (tx j.fd).toList.isEmpty = true := by rw [empty_tx]; exact hf0
     have HF := Lib.hid hf0
     have d8 := HS.out.jb.c 8 _ rfl
     clear hf0
     rw [h1]
     go_wp2_with (fail)
     clear d8 h1
     have hsz : (w7 j).length + ([114, 101, 100, 117, 99, 101] : List UInt8).length + (wq j.r).1.length ≤ 1000000 := by
      have := HLN.out.l7
      have := wq_len j.r
      simp only [List.length_cons, List.length_nil]
      omega
     refine (pute_any b (w7 j) (x7 j) [114, 101, 100, 117, 99, 101] j.r A3 c3 _ HS.out.wr (HJL.out.r.next HS.out.be) (HK.out.next HS.out.be) (HT.out.next HS.out.be) hc3 HJL.out.lr hsz (by have := HS.out.wr.lt; omega)).mono ?_
     rintro e u10 ⟨rfl, hw, hb⟩
     have HS2 : Hid (Ws w [.string (tx j.nm), .int .i64 j.t, .int .i64 j.p, .int .i64 j.k, .int .i64 j.n, .int .i64 j.f, .slice A1 j.m.length c1, .slice A2 j.b.length c2, .slice A3 j.r.length c3, .string (tx j.fd), .bool j.cb] b (w8 j) (x8 j) u10) := Lib.hid (by
      have h := HS.out.step hw hb
      unfold w8 x8; rw [if_pos HF.out, if_pos HF.out]; exact h)
     replace HS := HS2
     clear hw hb hsz HS2
     go_wp2_with (fail)
     go_meet
     exact HS.out
   · have h1 : (tx j.fd).toList.isEmpty = false := by rw [empty_tx]; exact Bool.eq_false_iff.2 hf0
     have HF := Lib.hid hf0
     have d9 := HS.out.jb.c 9 _ rfl
     have c0 := HS.out.wr.func
     clear hf0
     rw [h1]
     go_wp2_with (fail)
     clear d9 c0 h1
     have hsz : (w7 j).length + (⟨#[102, 111, 108, 100]⟩ : ByteArray).size + (tx j.fd).size ≤ 1000000 := by
      have e : (⟨#[102, 111, 108, 100]⟩ : ByteArray).size = 4 := rfl
      rw [e]
      simp only [tx_size]
      have := HLN.out.fd
      have := HLN.out.l7
      omega
     refine (putw2 ⟨#[102, 111, 108, 100]⟩ (tx j.fd) HS.out.wr hsz).mono ?_
     rintro e u11 ⟨rfl, hw, hb⟩
     replace HS := Lib.hid ((HS.out.step hw hb).cast (l' := w8 j) (by unfold w8; rw [if_neg HF.out]; simp only [tx_list]; rfl))
     clear hw hb hsz
     have HS2 : Hid (Ws w [.string (tx j.nm), .int .i64 j.t, .int .i64 j.p, .int .i64 j.k, .int .i64 j.n, .int .i64 j.f, .slice A1 j.m.length c1, .slice A2 j.b.length c2, .slice A3 j.r.length c3, .string (tx j.fd), .bool j.cb] b (w8 j) (x8 j) u11) := Lib.hid (by have e : x8 j = x7 j := if_neg HF.out; rw [e]; exact HS.out)
     clear HS
     go_wp2_with (fail)
     go_meet
     exact HS2.out
  case rest =>
   clear HS
   have HS : Hid (Ws w [.string (tx j.nm), .int .i64 j.t, .int .i64 j.p, .int .i64 j.k, .int .i64 j.n, .int .i64 j.f, .slice A1 j.m.length c1, .slice A2 j.b.length c2, .slice A3 j.r.length c3, .string (tx j.fd), .bool j.cb] b (w8 j) (x8 j) wc) := Lib.hid hcut
   clear hcut
   generalize wc = u12 at *
   go_upto_region 19 with fail
   have hcb : (tx (if j.cb then yesL else noL)).size ≤ 3 := by rw [tx_size]; cases j.cb <;> decide
   obtain ⟨A, hA⟩ : ∃ A, (if j.cb then yesL else noL) = A := ⟨_, rfl⟩
   rw [hA] at hcb
   have HA := Lib.hid hA
   clear hA
   have hsz : (w8 j).length + (⟨#[99, 111, 109, 98, 105, 110, 101]⟩ : ByteArray).size + (tx (A)).size ≤ 1000000 := by
    have e : (⟨#[99, 111, 109, 98, 105, 110, 101]⟩ : ByteArray).size = 7 := rfl
    rw [e]
    have := HLN.out.l8
    omega
   clear hcb
   have d0 := HS.out.wr.func; have d10 := HS.out.jb.c 10 _ rfl
   have hlo := HS.out.wr.lt
   go_region_held3 (fun w' => w'.cell? ⟨b + 1 + 1, 0, none⟩ = some (.func (.func 23) #[] #[.pointer (some ⟨b, 0, none⟩)]) ∧ w'.cell? ⟨w.heap.size, 10, none⟩ = some (.bool j.cb)) (go_keep)
    (first
    | (go_at_call 23
       refine (putw2 ⟨#[99, 111, 109, 98, 105, 110, 101]⟩ (tx (A)) HY1.out.wr hsz).mono ?_
       rintro e u13 ⟨rfl, hw, hb⟩
       have HZ := Lib.hid ((HY1.out.step hw hb).cast (l' := w9 j) (by rw [← HA.out]; simp only [tx_list]; rfl))
       clear hw hb
       have r0 := HZ.out.wr.func; have r10 := HZ.out.jb.c 10 _ rfl)
    | (go_at_call 30
       refine (answers_any _).mono ?_
       rintro e y1 ⟨a, rfl, ha, hb⟩
       have HY1 := Lib.hid ((HS.out.next (below_drewN (Below.refl _ _) 1)).next hb)
       have lk := Am.look ha j.cb; rw [HA.out] at lk
       have lf := fld_any (tx A) y1
       clear hb ha
       have p0 := HY1.out.wr.func; have p10 := HY1.out.jb.c 10 _ rfl))
   rename_i hHd
   clear hHd hsz hlo d0 d10 p0 p10 r0 r10 lk lf HY1
   replace HS := HZ
   clear HZ
   clear HA
   go_upto_region 20 with fail
   generalize hX : x8 j = X at *
   have HX := Lib.hid hX
   clear hX
   by_cases hx0 : X = 0
   · have HEQ2 : Hid (jwq j = if 4096 < (w9 j).length then ([], 3) else (w9 j, 0)) := Lib.hid (HEQ.out.trans (if_pos hx0))
     rw [hx0] at HS
     clear hx0
     clear HEQ
     have c0 := HS.out.wr.fault
     go_wp2_with (fail)
     clear c0
     refine (lenK_any b b (w9 j) _ HS.out.wr.bl).mono ?_
     rintro e z ⟨rfl, rfl⟩
     by_cases hn : 4096 < (w9 j).length
     · have HE3 : Hid (jwq j = ([], 3)) := Lib.hid (HEQ2.out.trans (if_pos hn))
       have hg : decide (4096 < (w9 j).length) = true := decide_eq_true hn
       have c0 := HS.out.wr.fault
       have f0 := HS.out.wr.thaw
       have hlt := HS.out.wr.lt
       clear HEQ2 hn
       generalize (w9 j).length = n9 at *
       have hg2 : decide ((4096 : Int) < (n9 : Int)) = true := by have := of_decide_eq_true hg; exact decide_eq_true (by omega)
       go_upto_region 22 with fail
       have HS3 := Lib.hid (HS.out.setx 3)
       clear c0 f0 hlt hg hg2 HS
       generalize u13.setCell ⟨b + 1, 0, none⟩ (.int .i64 3) = z3 at *
       have c0 := HS3.out.wr.fault
       go_wp2_with (fail)
       go_quiet (fail)
       clear c0
       go_wp2_with (fail)
       exact bodyPost_ret (v := .tuple #[.string ⟨#[]⟩, .int .i64 3]) (by simp [results, Tryz.results10, go_sem]) rfl ⟨by rw [HE3.out]; rfl, below_drewN HS3.out.be _⟩
     · have HE3 : Hid (jwq j = (w9 j, 0)) := Lib.hid (HEQ2.out.trans (if_neg hn))
       have hg : decide (4096 < (w9 j).length) = false := decide_eq_false hn
       have c0 := HS.out.wr.fault
       clear HEQ2 hn
       obtain ⟨n9, hn9⟩ : ∃ n9, (w9 j).length = n9 := ⟨_, rfl⟩
       rw [hn9] at hg ⊢
       clear hn9
       have hg2 : decide ((4096 : Int) < (n9 : Int)) = false := by have := of_decide_eq_false hg; exact decide_eq_false (by omega)
       go_wp2_with (fail)
       clear c0 hg hg2
       refine (stringK_any b b (w9 j) _ HS.out.wr.bl (by have := HS.out.wr.lt; omega)).mono ?_
       rintro e z2 ⟨rfl, -, hb, -⟩
       have HB2 : Hid (Below w.heap.size w z2) := Lib.hid (HS.out.be.trans (hb.mono (Nat.le_of_lt HS.out.lo)))
       clear hb
       go_wp2_with (fail)
       exact bodyPost_ret (v := .tuple #[.string (tx (w9 j)), .int .i64 0]) (by simp [results, Tryz.results10, go_sem]) rfl ⟨by rw [HE3.out], HB2.out⟩
   · have hne : (X == 0) = false := beq_eq_false_iff_ne.2 hx0
     have HEQ2 : Hid (jwq j = ([], X)) := Lib.hid (HEQ.out.trans (if_neg hx0))
     clear hx0 HEQ HX
     have c0 := HS.out.wr.fault
     go_wp2_with (fail)
     go_quiet (fail)
     clear c0 hne
     go_wp2_with (fail)
     exact bodyPost_ret (v := .tuple #[.string ⟨#[]⟩, .int .i64 X]) (by simp [results, Tryz.results10, go_sem]) rfl ⟨by rw [HEQ2.out]; rfl, below_drewN HS.out.be _⟩
theorem jwrite_any (j : Jb) (A1 : Option Addr) (c1 : Nat) (A2 : Option Addr) (c2 : Nat) (A3 : Option Addr) (c3 : Nat) (w : World) (hj : JL w j A1 A2 A3) (hk : KM w) (ht : Tab w) (hl : j.nm.length ≤ 9223372036854775807) (hc1 : j.m.length ≤ c1) (hc2 : j.b.length ≤ c2) (hc3 : j.r.length ≤ c3) : Calls Tryz.prog 10 #[.agg #[.string (tx j.nm), .int .i64 j.t, .int .i64 j.p, .int .i64 j.k, .int .i64 j.n, .int .i64 j.f, .slice A1 j.m.length c1, .slice A2 j.b.length c2, .slice A3 j.r.length c3, .string (tx j.fd), .bool j.cb]] w (Gives (.tuple #[.string (tx (jwq j).1), .int .i64 (jwq j).2]) w) := by
 by_cases h0 : jr j = 0
 · exact write_ok j A1 c1 A2 c2 A3 c3 w hj hk ht h0 hc1 hc2 hc3
 · have e : jwq j = ([], jr j) := if_pos h0
   rw [e]
   exact write_bad j A1 c1 A2 c2 A3 c3 w hj hk hl h0
end Go.Proofs.YtimllihegnokeaaGreatDoor.Jo
