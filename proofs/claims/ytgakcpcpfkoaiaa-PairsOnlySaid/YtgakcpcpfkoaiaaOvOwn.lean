/-
  Of any seat: rows of bytes of the call's own, appended to, and made a text.
-/
import Derived.Test.YtgakcpcpfkoaiaaOvText
import Derived.Deep.RegionLaw
namespace Go.Proofs.Ytgakcpcpfkoaiaa.Ov
open Go.ChangeShapes Go.WideShapes Go.ChangeAt Go.RowKit

theorem step_own {P : Program} (w : World) {ops : Array Oper} {o : Oper} {a : Act} {K : Act → World → Prop} {Q : Exit → Act → World → Prop} {E : Prop} (hgd : o.guard = none) (s x : Operand) (t : TypeId)
    (ho : o.op = .call { callee := .builtin .append, args := #[s, x], argTypes := #[t, t] })
    (base : Nat) (e : TypeId) (i : TypeInfo) (z : Value) (size bytes : Nat) (ht : P.underlying t = some (.slice e)) (hi : P.info? e = some i) (hz : i.zero = some z)
    (hsize : i.size = size) (hby : i.bytes = bytes) (hzs : z.cells.size = size) (hsz : 0 < size)
    (v : Value) (n : Nat) (xs : List Value) (hs : a.eval s = v) (hown : w.ownsRow base e size v n xs)
    (ad : Addr) (m c : Nat) (news : List Value) (hx : a.eval x = .slice (some ad) m c) (hl : news.length = m * size) (hnews : ∀ j u, news[j]? = some u → w.cell? (ad.add j) = some u) (h1 : ∀ u ∈ news, u.oneCell' = true)
    (h63 : n + m ≤ maxLen) (hbytes : (n + m) * bytes ≤ 140737488355328) (hbase : base ≤ w.heap.size)
    (h : ∀ v' w', w'.ownsRow base e size v' (n + m) (xs ++ news) → w.grownBy w' v.ownBlock → (v' = .slice none 0 0 ↔ v = .slice none 0 0 ∧ m = 0) → K (a.put o.dst v') w') :
    if Region.wanted o (yielded ops a.tmps) = true then Oper.wp P o a w K Q else E := by
  have hw : Region.wanted o (yielded ops a.tmps) = true := by simp [Region.wanted, hgd]
  rw [if_pos hw]
  exact wp_append_own w s x t ho base e i z size bytes ht hi hz hsize hby hzs hsz v n xs hs hown ad m c news hx hl hnews h1 h63 hbytes hbase h
theorem one_news (w : World) (v : Value) (ty : TypeId) : ∀ j u, [v][j]? = some u → (w.alloc (.cells #[v] ty)).cell? ((⟨w.heap.size, 0, none⟩ : Addr).add j) = some u := by
  intro a u ha
  match a, ha with
  | 0, ha =>
    simp at ha; subst ha
    simp [Addr.add]
theorem one_one {v : Value} (h : v.oneCell' = true) : ∀ u ∈ [v], u.oneCell' = true := by
  intro u hu; simp at hu; subst hu; exact h
theorem one_base {w w' : World} (h : w.heap.size ≤ w'.heap.size) (o : Obj) : w.heap.size ≤ (w'.alloc o).heap.size := by simp; omega
/-- The cells of bytes. -/
def vals (l : List UInt8) : List Value := l.map fun b => Value.int .u8 (b.toNat : Int)
theorem vals_snoc (l : List UInt8) (b : UInt8) : vals (l ++ [b]) = vals l ++ [.int .u8 (b.toNat : Int)] := by simp [vals]
theorem vals_get (l : List UInt8) (j : Nat) (h : j < l.length) : (vals l)[j]? = some (.int .u8 (l[j].toNat : Int)) := by simp [vals, h]
/-- string(b), of a row of one's own, or of nil, whatever was made since. -/
theorem run_own_text {w : World} {base m : Nat} {v : Value} {l : List UInt8} (hm : m = l.length) (h : w.ownsRow base 5 1 v m (vals l)) (q : Over w) : (convert 48 9 v).run Try.prog q.val = .ok (.string (tx l)) q.val := by
  subst hm
  rcases h.2 with ⟨e1, e2⟩ | ⟨g, cap, cur, rfl, _⟩
  · subst e1
    have hl : l = [] := by
      cases l with
      | nil => rfl
      | cons b l => exact absurd e2 (by simp)
    subst hl
    rw [run_convert_bytes_nil q.val 48 5 Try.underlying48 Try.underlying5 0 0 9 Try.underlying9]
    rfl
  · exact run_text rfl fun j hj => over_cell q (by rw [Nat.zero_add, h.cellAt j (by omega)]; exact vals_get l j hj)
end Go.Proofs.Ytgakcpcpfkoaiaa.Ov
