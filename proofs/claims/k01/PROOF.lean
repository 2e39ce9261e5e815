import PyProof.Rows.All
import Wide.All
import OpenK.AllK
import Wide.FinOn
import HandS.ForMost
import HandS.Wide
import HandS.Conv
import HandS.Codes
import HandS.Deep
import HandS.TupAny
import HandS.SortInts
import HandS.Strs
import HandS.Style
import HandS.Walk
import KE.GoesMore
import HandS.SetFor
import HandS.IsInst
import HandS.TupMul
import PyProof.Rows.IntBool
import PyProof.Rows.EqBoolInt
import KE.KRevSl
import PyProof.StrLawsRepr
import HandS.TupSets
import PySem.Challenge.RW_leastahead_k01_judges_of_any_value
set_option Elab.async false
set_option linter.all false
set_option maxRecDepth 100000
set_option maxHeartbeats 4000000
/-! ### heaps, the pot, judges: what every law of this program leans on -/
namespace LA
open PySem L2
/-- all that was tracked is as it was, but the object at p -/
def SameX (p : Addr) (H H' : Hp) : Prop := ∀ b o, H b = some o → b ≠ p → H' b = some o
theorem SameX.refl (p : Addr) (H : Hp) : SameX p H H := fun _ _ h _ => h
theorem SameX.trans {p : Addr} {H H1 H2 : Hp} (a : SameX p H H1) (b : SameX p H1 H2) : SameX p H H2 := fun c o h n => b c o (a c o h n) n
theorem SameX.new {p q : Addr} {H H' : Hp} {o : HO} (a : SameX p H H') (hq : H' q = none) : SameX p H (upd H' q o) := fun c u h n => by
  have h1 := a c u h n
  rw [upd_ne (ne_of_none h1 hq)]; exact h1
theorem SameX.at {p : Addr} {H H' : Hp} {o : HO} (a : SameX p H H') : SameX p H (upd H' p o) := fun c u h n => by
  rw [upd_ne n]; exact a c u h n
theorem SameX.own {p q : Addr} {H H' : Hp} {o : HO} (a : SameX p H H') (hq : H q = none) : SameX p H (upd H' q o) := fun c u h n => by
  rw [upd_ne (ne_of_none h hq)]; exact a c u h n
theorem _root_.L2.Same.x {p : Addr} {H H' : Hp} (a : Same H H') : SameX p H H' := fun b o h _ => a b o h
theorem _root_.L2.Same.new {q : Addr} {H H' : Hp} {o : HO} (a : Same H H') (hq : H' q = none) : Same H (upd H' q o) := fun c u h => by
  have h1 := a c u h
  rw [upd_ne (ne_of_none h1 hq)]; exact h1
theorem _root_.L2.Same.own {q : Addr} {H H' : Hp} {o : HO} (a : Same H H') (hq : H q = none) : Same H (upd H' q o) := fun c u h => by
  rw [upd_ne (ne_of_none h hq)]; exact a c u h
theorem _root_.L2.Same.seqT {K : PySem.W.Frag} {H H' : Hp} {a : Addr} {xs : List V} (e : Same H H') (h : SqT K H a xs) : SqT K H' a xs := by
  rcases h with (h | ⟨o, h⟩) | h
  · exact .inl (.inl (e _ _ h))
  · exact .inl (.inr ⟨o, e _ _ h⟩)
  · exact .inr h
/-- tuples stay -/
def SameT (H H' : Hp) : Prop := ∀ b xs, (H b = some (.tup xs) → H' b = some (.tup xs)) ∧ ∀ o, H b = some (.frz o (.tup xs)) → H' b = some (.frz o (.tup xs))
theorem SameT.refl (H : Hp) : SameT H H := fun _ _ => ⟨id, fun _ => id⟩
theorem SameT.trans {H H1 H2 : Hp} (a : SameT H H1) (b : SameT H1 H2) : SameT H H2 := fun c xs => ⟨fun h => (b c xs).1 ((a c xs).1 h), fun o h => (b c xs).2 o ((a c xs).2 o h)⟩
theorem _root_.L2.Same.t {H H' : Hp} (a : Same H H') : SameT H H' := fun b xs => ⟨a b _, fun _ => a b _⟩
theorem SameX.t {p : Addr} {H H' : Hp} {ys : List V} (a : SameX p H H') (hp : H p = some (.lst ys)) : SameT H H' := fun b xs =>
  ⟨fun h => a b _ h (fun e => by subst e; rw [hp] at h; cases h), fun o h => a b _ h (fun e => by subst e; rw [hp] at h; cases h)⟩
theorem SameT.lst {H : Hp} {l : Addr} {xs ys : List V} (hl : H l = some (.lst xs)) : SameT H (upd H l (.lst ys)) := SameX.t (SameX.at (SameX.refl l H)) hl
theorem SameT.new {H : Hp} {q : Addr} {o : HO} (hq : H q = none) : SameT H (upd H q o) := Same.t (Same.new (Same.refl H) hq)
theorem SameT.seq {K : PySem.W.Frag} {H H' : Hp} {a : Addr} {xs : List V} (e : SameT H H') (h : SqT K H a xs) : SqT K H' a xs := by
  rcases h with (h | ⟨o, h⟩) | h
  · exact .inl (.inl ((e _ _).1 h))
  · exact .inl (.inr ⟨o, (e _ _).2 _ h⟩)
  · exact .inr h

/-- the law's own source of draws -/
def PotAt (H : Hp) (p : Addr) (n : Nat) : Prop := ∃ a b c : Int, H p = some (.lst [.int a, .int b, .int c]) ∧ 0 ≤ a ∧ 0 ≤ b ∧ b < 2305843009213693951 ∧ 0 ≤ c ∧ c ≤ n
theorem PotAt.mono {H : Hp} {p : Addr} {n m : Nat} (h : PotAt H p n) (hm : n ≤ m) : PotAt H p m := by
  obtain ⟨a, b, c, h1, h2, h3, h4, h5, h6⟩ := h
  exact ⟨a, b, c, h1, h2, h3, h4, h5, by omega⟩
theorem PotAt.lst {H : Hp} {p : Addr} {n : Nat} (h : PotAt H p n) : ∃ ys, H p = some (.lst ys) := let ⟨_, _, _, h1, _⟩ := h; ⟨_, h1⟩
theorem PotAt.ne {H : Hp} {p q : Addr} {n : Nat} (h : PotAt H p n) (hq : H q = none) : q ≠ p := let ⟨_, h1⟩ := h.lst; fun e => by subst e; rw [h1] at hq; cases hq
theorem PotAt.new {H : Hp} {p q : Addr} {n : Nat} {o : HO} (h : PotAt H p n) (hq : q ≠ p) : PotAt (upd H q o) p n := by
  obtain ⟨a, b, c, h1, r⟩ := h
  exact ⟨a, b, c, by rw [upd_ne (Ne.symm hq)]; exact h1, r⟩
theorem PotAt.t {H H' : Hp} {p : Addr} {n : Nat} (h : PotAt H p n) (s : SameX p H H') : SameT H H' := let ⟨_, h1⟩ := h.lst; s.t h1
theorem SameX.free {p q : Addr} {H H' : Hp} {n : Nat} (s : SameX p H H') (h : PotAt H' p n) (hq : H' q = none) : H q = none := by
  have hne := h.ne hq
  cases e : H q with
  | none => rfl
  | some o => rw [s q o e hne] at hq; cases hq
def spTake : Sp := fun vs H Q _ => ∃ (p : Addr) (m : Int) (n : Nat), vs = [.ref p, .int m] ∧ 0 < m ∧ m < 1073741824 ∧ PotAt H p n ∧ n < 1000000 ∧
  ∀ (H' : Hp) (r : Nat), SameX p H H' → PotAt H' p (n + 1) → (r : Int) < m → Q (.int r) H'
theorem at3 (a b c : V) : atI [a, b, c] 0 = some a ∧ atI [a, b, c] 1 = some b ∧ atI [a, b, c] 2 = some c := ⟨atI_nat (j := 0) rfl, atI_nat (j := 1) rfl, atI_nat (j := 2) rfl⟩
theorem mod_nat {a m : Int} (hm : 0 < m) : ∃ r : Nat, a % m = (r : Int) ∧ (r : Int) < m := ⟨(a % m).toNat, by have := Int.emod_nonneg a (by omega : m ≠ 0); omega, by have := Int.emod_lt_of_pos a hm; have := Int.emod_nonneg a (by omega : m ≠ 0); omega⟩
end LA
namespace LA
open PySem L2
/-- the built-in names that the texts use are not bound in the module -/
structure Bt (mg : Str → Option Value) : Prop where
  len : mg "len" = none
  range : mg "range" = none
  tuple : mg "tuple" = none
  list : mg "list" = none
  abs : mg "abs" = none
  int : mg "int" = none
  sorted : mg "sorted" = none
  set : mg "set" = none
  repr : mg "repr" = none
  max : mg "max" = none
  min : mg "min" = none
  all : mg "all" = none
  enumerate : mg "enumerate" = none
  isinstance : mg "isinstance" = none
  bool : mg "bool" = none
  str : mg "str" = none
  zip : mg "zip" = none
  sum : mg "sum" = none
  reversed : mg "reversed" = none
def spOf : Sp := fun vs H Q _ => ∃ (p l : Addr) (xs : List V) (n : Nat), vs = [.ref p, .ref l] ∧ H l = some (.lst xs) ∧ l ≠ p ∧ 0 < xs.length ∧ xs.length < 1000000 ∧ PotAt H p n ∧ n < 1000000 ∧
  ∀ (H' : Hp) (i : Nat) (v : V), SameX p H H' → PotAt H' p (n + 1) → xs[i]? = some v → Q v H'
def spMixed (K : PySem.W.Frag) : Sp := fun vs H Q _ => ∃ (p l : Addr) (ns : List Int) (n : Nat), vs = [.ref p, .ref l] ∧ H l = some (.lst (ns.map V.int)) ∧ l ≠ p ∧ ns.length ≤ 1000 ∧ PotAt H p n ∧ n + ns.length < 1000000 ∧
  ∀ (H' : Hp) (q : Addr) (ms : List Int), SameX p H H' → PotAt H' p (n + ns.length) → H q = none → H' q = some (.lst (ms.map V.int)) → ms.Perm ns → Q (.ref q) H'
def spPot (K : PySem.W.Frag) : Sp := fun vs H Q _ => ∃ (a : Addr) (ns : List Int) (k : Nat), vs = [.ref a, .int (k : Int)] ∧ SqL K H a (ns.map V.int) ∧ k ≤ 63 ∧
  ∀ (H' : Hp) (p : Addr), Same H H' → H p = none → PotAt H' p 0 → Q (.ref p) H'
section
variable {X : Cx}
theorem op_mul_str : OpR X (binaryOp .Mult) (fun x y H Q => ∃ (i : Str) (n : Int), x = .str i ∧ y = .int n ∧ MulOk i n ∧ Q (.str (Txt.mul i n)) H) := by
  intro pins s σ H x y v u Q I rx ry h
  obtain ⟨i, n, rfl, rfl, hok, q⟩ := h
  obtain ⟨t, rfl⟩ := rx
  obtain ⟨t', rfl⟩ := ry
  exact SB.mul hok fun t2 k => ⟨.str _, H, I.tok _, ⟨_, rfl⟩, q⟩
end
end LA
namespace LA
open PySem L2
theorem perm_erase : ∀ (l : List Int) (r : Nat) (h : r < l.length), (l[r] :: l.eraseIdx r).Perm l
  | a :: l, 0, _ => by simp
  | a :: l, r + 1, h => by
    have h' : r < l.length := by simpa using h
    have ih := perm_erase l r h'
    simp only [List.getElem_cons_succ, List.eraseIdx_cons_succ]
    exact (List.Perm.swap a l[r] (l.eraseIdx r)).trans (ih.cons a)
theorem map_erase : ∀ (l : List Int) (r : Nat), (l.map V.int).eraseIdx r = (l.eraseIdx r).map V.int
  | [], _ => by simp
  | a :: l, 0 => by simp
  | a :: l, r + 1 => by simp [map_erase l r]
theorem seqIx {n r : Nat} (h : r < n) : seqIndex? (r : Int) n = some r := by
  have e : ixN n (r : Int) = some r := by
    unfold ixN
    rw [if_pos (by omega), if_pos (by omega)]; simp
  exact (ixN_seq e).1
theorem ixN_nat {n r : Nat} (h : r < n) : ixN n (r : Int) = some r := by
  unfold ixN
  rw [if_pos (by omega), if_pos (by omega)]; simp
end LA

namespace LA
open PySem L2
abbrev Rw := List (Option Nat)
abbrev Sd := List Rw
abbrev Jd := List Sd
def oV : Option Nat → V
  | none => .non
  | some n => .int (n : Int)
theorem paired_snoc {α β : Type} {R : α → β → Prop} : ∀ {xs : List α} {ys : List β} {x : α} {y : β}, Paired R xs ys → R x y → Paired R (xs ++ [x]) (ys ++ [y])
  | _, _, _, _, .nil, h => .cons h .nil
  | _, _, _, _, .cons r t, h => .cons r (paired_snoc t h)
theorem paired_map {α β : Type} {R R' : α → β → Prop} : ∀ {xs : List α} {ys : List β}, Paired R xs ys → (∀ x y, R x y → R' x y) → Paired R' xs ys
  | _, _, .nil, _ => .nil
  | _, _, .cons r t, h => .cons (h _ _ r) (paired_map t h)
theorem paired_len {α β : Type} {R : α → β → Prop} : ∀ {xs : List α} {ys : List β}, Paired R xs ys → xs.length = ys.length
  | _, _, .nil => rfl
  | _, _, .cons _ t => by simp [paired_len t]
theorem paired_at {α β : Type} {R : α → β → Prop} : ∀ {xs : List α} {ys : List β} {i : Nat} {x : α}, Paired R xs ys → xs[i]? = some x → ∃ y, ys[i]? = some y ∧ R x y
  | _, _, 0, _, .cons r _, h => by simp at h; subst h; exact ⟨_, rfl, r⟩
  | _, _, i + 1, _, .cons _ t, h => by
    obtain ⟨y, h1, h2⟩ := paired_at (i := i) t (by simpa using h)
    exact ⟨y, by simpa using h1, h2⟩
theorem paired_at' {α β : Type} {R : α → β → Prop} : ∀ {xs : List α} {ys : List β} {i : Nat} {y : β}, Paired R xs ys → ys[i]? = some y → ∃ x, xs[i]? = some x ∧ R x y
  | _, _, 0, _, .cons r _, h => by simp at h; subst h; exact ⟨_, rfl, r⟩
  | _, _, i + 1, _, .cons _ t, h => by
    obtain ⟨y, h1, h2⟩ := paired_at' (i := i) t (by simpa using h)
    exact ⟨y, by simpa using h1, h2⟩
def RowAt (K : PySem.W.Frag) (H : Hp) (v : V) (r : Rw) : Prop := ∃ a, v = .ref a ∧ SqT K H a (r.map oV)
def StAt (K : PySem.W.Frag) (H : Hp) (v : V) (s : Sd) : Prop := ∃ a vs, v = .ref a ∧ SqT K H a vs ∧ Paired (RowAt K H) vs s
def JAt (K : PySem.W.Frag) (H : Hp) (v : V) (j : Jd) : Prop := ∃ a vs, v = .ref a ∧ SqT K H a vs ∧ Paired (StAt K H) vs j
section
variable {K : PySem.W.Frag} {H H' : Hp} {v : V}
theorem RowAt.t {r : Rw} (h : RowAt K H v r) (s : SameT H H') : RowAt K H' v r := let ⟨a, e, q⟩ := h; ⟨a, e, s.seq q⟩
theorem StAt.t {r : Sd} (h : StAt K H v r) (s : SameT H H') : StAt K H' v r := let ⟨a, vs, e, q, p⟩ := h; ⟨a, vs, e, s.seq q, paired_map p fun _ _ x => x.t s⟩
theorem JAt.t {r : Jd} (h : JAt K H v r) (s : SameT H H') : JAt K H' v r := let ⟨a, vs, e, q, p⟩ := h; ⟨a, vs, e, s.seq q, paired_map p fun _ _ x => x.t s⟩
end
/-- a state with nx rows of ny entries below n -/
def StOk (nx ny n : Nat) (s : Sd) : Prop := s.length = nx ∧ ∀ r ∈ s, r.length = ny ∧ ∀ m, some m ∈ r → m < n
/-- a judge with n states -/
structure IsJ (j : Jd) (nx ny : Nat) : Prop where
  n1 : 1 ≤ j.length
  n8 : j.length ≤ 8
  x1 : 1 ≤ nx
  x4 : nx ≤ 4
  y1 : 1 ≤ ny
  y4 : ny ≤ 4
  st : ∀ s ∈ j, StOk nx ny j.length s
def spJudge (K : PySem.W.Frag) : Sp := fun vs H Q _ => ∃ (p : Addr) (m1 m2 m3 : Int) (n : Nat), vs = [.ref p, .int m1, .int m2, .int m3] ∧ 1 ≤ m1 ∧ m1 ≤ 8 ∧ 1 ≤ m2 ∧ m2 ≤ 4 ∧ 1 ≤ m3 ∧ m3 ≤ 4 ∧ PotAt H p n ∧ n < 900000 ∧
  ∀ (H' : Hp) (v : V) (j : Jd) (nx ny : Nat), SameX p H H' → PotAt H' p (n + 300) → JAt K H' v j → IsJ j nx ny → (j.length : Int) ≤ m1 → (nx : Int) ≤ m2 → (ny : Int) ≤ m3 → Q v H'
end LA
namespace LA
open PySem L2
def nV (x : Nat) : V := .int (x : Int)
def WordAt (K : PySem.W.Frag) (H : Hp) (v : V) (w : List Nat) : Prop := ∃ a, v = .ref a ∧ SqT K H a (w.map nV)
theorem WordAt.t {K : PySem.W.Frag} {H H' : Hp} {v : V} {w : List Nat} (h : WordAt K H v w) (s : SameT H H') : WordAt K H' v w := let ⟨a, e, q⟩ := h; ⟨a, e, s.seq q⟩
def allW (L : Nat) : Nat → List (List Nat)
  | 0 => [[]]
  | n + 1 => (allW L n).flatMap fun w => (List.range L).map fun x => w ++ [x]
theorem flat_len {α β : Type} (f : α → List β) (c : Nat) : ∀ l : List α, (∀ x ∈ l, (f x).length = c) → (l.flatMap f).length = l.length * c
  | [], _ => by simp
  | a :: l, h => by
    have ih := flat_len f c l fun x hx => h x (List.mem_cons_of_mem _ hx)
    rw [List.flatMap_cons, List.length_append, ih, h a List.mem_cons_self, List.length_cons, Nat.add_mul]; omega
theorem allW_len (L : Nat) : ∀ n, (allW L n).length = L ^ n
  | 0 => rfl
  | n + 1 => by
    show ((allW L n).flatMap fun w => (List.range L).map fun x => w ++ [x]).length = _
    rw [flat_len _ L _ (by intro w _; simp), allW_len L n, Nat.pow_succ]
theorem mem_allW (L : Nat) : ∀ (n : Nat) (w : List Nat), w ∈ allW L n ↔ w.length = n ∧ ∀ x ∈ w, x < L
  | 0, w => by simp [allW]; intro h; subst h; simp
  | n + 1, w => by
    show w ∈ ((allW L n).flatMap fun w => (List.range L).map fun x => w ++ [x]) ↔ _
    simp only [List.mem_flatMap, List.mem_map, List.mem_range]
    constructor
    · rintro ⟨u, hu, x, hx, rfl⟩
      obtain ⟨h1, h2⟩ := (mem_allW L n u).mp hu
      refine ⟨by simp [h1], fun y hy => ?_⟩
      simp at hy
      rcases hy with hy | rfl
      · exact h2 y hy
      · exact hx
    · rintro ⟨h1, h2⟩
      have hne : w ≠ [] := by intro e; subst e; simp at h1
      refine ⟨w.dropLast, (mem_allW L n _).mpr ⟨by simp [h1], fun x hx => h2 x (List.dropLast_subset w hx)⟩, w.getLast hne, h2 _ (List.getLast_mem hne), ?_⟩
      exact List.dropLast_concat_getLast hne
def spAllWords (K : PySem.W.Frag) : Sp := fun vs H Q _ => ∃ (L n : Nat), vs = [.int (L : Int), .int (n : Int)] ∧ 1 ≤ L ∧ L ≤ 1000 ∧ n ≤ 1000 ∧ L ^ n ≤ 100000 ∧
  ∀ (H' : Hp) (q : Addr) (us : List V), Same H H' → H q = none → H' q = some (.lst us) → Paired (WordAt K H') us (allW L n) → Q (.ref q) H'
theorem paired_append {α β : Type} {R : α → β → Prop} : ∀ {xs zs : List α} {ys ws : List β}, Paired R xs ys → Paired R zs ws → Paired R (xs ++ zs) (ys ++ ws)
  | _, _, _, _, .nil, h => h
  | _, _, _, _, .cons r t, h => .cons r (paired_append t h)
theorem flat_take {α β : Type} (f : α → List β) (l : List α) (i : Nat) (x : α) (h : l[i]? = some x) : (l.take (i + 1)).flatMap f = (l.take i).flatMap f ++ f x := by
  rw [List.take_add_one, h]; simp
end LA
namespace LA
open PySem L2
theorem tyes {σ : L2.St} {H : Hp} {A B : Hp → Prop} (h : A H) : tYes σ H (fun b H3 => if b = true then A H3 else B H3) := by show if true = true then A H else B H; rw [if_pos rfl]; exact h
end LA
namespace LA
open PySem L2
def plcs (L F : Nat) : List (List Nat) := (List.range (F + 1)).flatMap (allW L)
theorem mem_plcs {L F : Nat} {w : List Nat} : w ∈ plcs L F ↔ w.length ≤ F ∧ ∀ x ∈ w, x < L := by
  unfold plcs
  simp only [List.mem_flatMap, List.mem_range]
  constructor
  · rintro ⟨n, hn, hw⟩
    obtain ⟨h1, h2⟩ := (mem_allW L n w).mp hw
    exact ⟨by omega, h2⟩
  · rintro ⟨h1, h2⟩
    exact ⟨w.length, by omega, (mem_allW L _ w).mpr ⟨rfl, h2⟩⟩
theorem plcs_small : ∀ L, L < 5 → ∀ i, i < 5 → ((List.range i).flatMap (allW L)).length ≤ 341 := by decide +kernel
theorem pow_small : ∀ L, L < 5 → ∀ i, i < 5 → L ^ i ≤ 100000 := by decide
end LA

namespace LA
open PySem PySem.Spec PyProof.Rows L2
open AutoSeq1 (wpAny_loadPart')
/-! ### enumerate over a tuple -/
theorem enumNewT (l : Addr) (its : Array Value) (n : Nat) (dct : Option Addr) (sl : Array (Option Value)) :
    Meets (Builtin.«enumerate.__new__» ⟨[.type "enumerate", .ref l], []⟩) (fun _ R st => st.heap.get? l = some { cls := .type "tuple", dict := dct, data := .seq its n, slots := sl } ∧
      R (.ok (.ret (.ref (st.heap.push { cls := .type "tuple_iterator", data := .fields #[.ref l, .int 0 0] }).objs.size)))
        { st with heap := (st.heap.push { cls := .type "tuple_iterator", data := .fields #[.ref l, .int 0 0] }).push { cls := .type "enumerate", data := .fields #[.none, .bool false, .ref st.heap.objs.size, rawInt 0, .none, .none] } }) :=
  .of_wp fun pr wo A R st hyp => by
    obtain ⟨hp, g, d, tk, os⟩ := st; obtain ⟨hl, hy⟩ := hyp
    have hs0 := sub_enumerate
    have hTu : Heap.IsTuple (Shared.heap ⟨hp, g, d, tk, os⟩) l its := ⟨_, hl, rfl, n, rfl⟩
    wp_walk using wpAny_loadPart' hl
    refine wpAny_stack_any fun stk => wpAny_pure ?_
    split
    · rename_i c _ _ _ _ _
      cases (c == Value.type "enumerate")
      · (wp_walk using wpAny_loadPart' hl, wpAny_pyIter_tuple hTu); exact ⟨_, rfl, hy⟩
      · (wp_walk using wpAny_loadPart' hl, wpAny_pyIter_tuple hTu); exact ⟨_, rfl, hy⟩
    · (wp_walk using wpAny_loadPart' hl, wpAny_pyIter_tuple hTu); exact ⟨_, rfl, hy⟩
theorem enumCallT {pr : Program} {wo : World} {A : Around} {E : Value → Shared → Prop} {st : Shared} {l : Addr} {its : Array Value} {Q : Value → Shared → Prop} (hL : st.heap.IsTuple l its)
    (hq : ∀ h', IsEnum h' (st.heap.objs.size + 1) st.heap.objs.size 0 .none → h'.IsTupleIter st.heap.objs.size l 0 → h'.objs.size = st.heap.objs.size + 2 →
      (∀ b o, st.heap.get? b = some o → h'.get? b = some o) → Q (.ref (st.heap.objs.size + 1)) { st with heap := h' }) :
    wpAny (model pr wo) A (call (.type "enumerate") [.ref l]) Q E st := by
  obtain ⟨⟨c, dct, dt, sl⟩, hl, hc, n, hd⟩ := hL
  simp only at hc hd
  subst hc hd
  refine callType_new F.called_enumerate (by decide) (F.typeCall_enumerate_1 _) (F.newCall_enumerate_1 _) (fun obj => F.args_object_init_2 obj _) F.entry_enumerate_new (enumNewT l its n dct sl) ⟨hl, ?_⟩
  have hz : (st.heap.push { cls := .type "tuple_iterator", data := .fields #[.ref l, .int 0 0] }).objs.size = st.heap.objs.size + 1 := Heap.size_push ..
  show _ ∧ _
  rw [hz]
  have he : IsEnum ((st.heap.push { cls := .type "tuple_iterator", data := .fields #[.ref l, .int 0 0] }).push
      { cls := .type "enumerate", data := .fields #[.none, .bool false, .ref st.heap.objs.size, rawInt 0, .none, .none] }) (st.heap.objs.size + 1) st.heap.objs.size 0 .none := by
    have q := Heap.get?_push_size (st.heap.push { cls := .type "tuple_iterator", data := .fields #[.ref l, .int 0 0] })
      (o := { cls := .type "enumerate", data := .fields #[.none, .bool false, .ref st.heap.objs.size, rawInt 0, .none, .none] }) rfl
    rw [hz] at q; exact q
  refine ⟨⟨_, he, rfl⟩, hq _ he ⟨_, Heap.get?_push_of_some _ (Heap.get?_push_size _ rfl), rfl, rfl⟩ (by rw [Heap.size_push, hz]) fun b o x => Heap.get?_push_of_some _ (Heap.get?_push_of_some _ x)⟩
def IteT (K : PySem.W.Frag) (a : Addr) : It :=
  ⟨fun i H => ∃ (xs : List V) (x : V), SqT K H a xs ∧ xs[i]? = some x, fun i H v H' => ∃ T x, v = .ref T ∧ H T = none ∧ H' = upd H T (.tup [.int (i : Nat), x]) ∧ ∀ xs, SqT K H a xs → xs[i]? = some x, fun i H => ∃ xs : List V, SqT K H a xs ∧ xs.length ≤ i⟩
theorem turnEnumT {P : Program} {w : World} {K : PySem.W.Frag} {elts : List Expr} {kk : Nat} {tpos : Pos} (a e it : Addr) :
    Turn P w K (.Tuple elts kk tpos) (IteT K a) [e, it] e (fun i h => (∃ old, IsEnum h e it ((i : Nat) : Int) old) ∧ h.IsTupleIter it a i ∧ e ≠ it ∧ a ≠ it ∧ e ≠ a) where
  mem := by simp
  obj := fun i h st b hb => by
    obtain ⟨⟨old, he⟩, ⟨o, ho, hc, hd⟩, _⟩ := st
    have e' : b = e ∨ b = it := by simpa using hb
    rcases e' with rfl | rfl
    · exact ⟨_, he, fun v q => nomatch q⟩
    · exact ⟨o, ho, fun v q => by rw [hd] at q; cases q⟩
  keep := fun i h h' st k => ⟨⟨st.1.choose, k e (by simp) _ st.1.choose_spec⟩, st.2.1.at fun o q => k it (by simp) o q, st.2.2⟩
  item := by
    intro X hP hw hK hc i pins s σ H E I hf st hg
    subst hP hw hK
    obtain ⟨⟨old, he⟩, hit, hne, hai, hea⟩ := st
    obtain ⟨xs, x, hq, hx⟩ := hg
    obtain ⟨its, rv, p, hz⟩ := I.tuple hq
    obtain ⟨u, hu, ru⟩ := rv.get hx
    have hel : e < s.heap.objs.size := Heap.lt_size he
    have hil : it < s.heap.objs.size := by obtain ⟨_, q, _⟩ := hit; exact Heap.lt_size q
    have hil2 : i < its.toArray.size := by have := (List.getElem?_eq_some_iff.mp hu).1; simpa using this
    refine wpAny_pyNext_enum_itemD (Draws.tuple (A := X.A.in1) (I.ok.hd hc) it a hai its.toArray) he ⟨hit, p⟩ hil2 hne (by simp [hne, hea]) fun u' h' tk hu' ho hst' hT hsz hk => ?_
    have hit' := hst'.1
    have eu : u' = u := by
      have h1 : its[i]? = some u' := by simpa using hu'
      rw [hu] at h1; exact (Option.some.inj h1).symm
    subst eu
    refine ⟨_, rfl, wpAny_letOwnedTupleGo_enum (s := { s with heap := h', toks := tk + 1 }) ho fun h'' he' sb => ?_⟩
    have hT2 : h''.get? s.heap.objs.size = some { cls := .type "tuple", data := .seq #[.int i tk, u'] } := (sb.2 _ (Nat.ne_of_gt hel)).trans hT
    have new : ObjOk X.prog X.w (upd H s.heap.objs.size (.tup [.int (i : Nat), x])) h'' s.heap.objs.size (.tup [.int (i : Nat), x]) :=
      ⟨by show 2 ≤ sizeLine; decide, [.int i tk, u'], .cons ⟨_, rfl⟩ (.cons ru .nil), ⟨_, hT2, rfl, _, rfl⟩⟩
    have I1 : Inv X pins σ (upd H s.heap.objs.size (.tup [.int (i : Nat), x])) { s with heap := h'', toks := tk + 1 } :=
      I.turnedNew (ch := [e, it]) (fun b ob hb q => (sb.2 b (fun z => hb (by simp [z]))).trans (hk b ob (fun z => hb (by simp [z])) (fun z => hb (by simp [z])) q)) hf (Nat.le_refl _) new
    refine ⟨.ref s.heap.objs.size, _, I1, rfl, ⟨_, x, rfl, I.hok.fresh (Nat.le_refl _), rfl, fun ys hy => by rw [I.tuple_inj hy hq]; exact hx⟩, ⟨⟨u', ?_⟩, hit'.at fun o q => (sb.2 it (Ne.symm hne)).trans q, hne, hai, hea⟩, fun b hb => ?_⟩
    · have e1 : ((i + 1 : Nat) : Int) = (i : Int) + 1 := by omega
      rw [e1]; exact he'
    · have hb' : b < s.heap.objs.size := by
        have e' : b = e ∨ b = it := by simpa using hb
        rcases e' with rfl | rfl
        · exact hel
        · exact hil
      rw [upd_ne (Nat.ne_of_lt hb')]; exact (hf b hb).1
  done := by
    intro X hP hw hK hc i pins s σ H E I hf st hg
    subst hP hw hK
    obtain ⟨⟨old, he⟩, hit, hne, hai, hea⟩ := st
    obtain ⟨xs, hq, hx⟩ := hg
    obtain ⟨its, rv, p, hz⟩ := I.tuple hq
    obtain ⟨f0, f1, f2, f3, f4, f5⟩ := hf it (by simp)
    have hl := rv.length
    have hd2 : Draws X.prog X.w X.A.in1 it [it, a] i (fun _ _ => True) (fun j h => h.IsTupleIter it a j ∧ h.IsTuple a its.toArray ∧ j = i) :=
      { live := fun j h st => ⟨st.1.choose, st.1.choose_spec.1⟩
        frame := fun j h h' st k => ⟨st.1.at fun o z => k it (by simp) o z, st.2.1.at fun o z => k a (by simp) o z, st.2.2⟩
        item := fun j s Q E hj st _ => absurd st.2.2 (Nat.ne_of_lt hj)
        done := fun s Q E st hE => wpAny_nextOf_tuple_end (I.ok.hd hc) st.1 st.2.1 (by simp; omega) hE }
    exact wpAny_pyNext_enum_endD hd2 he ⟨hit, p, rfl⟩ fun h' eb => ⟨rfl, I.turned (t' := s.toks) (fun b o hb q => eb b o hb q) f0 f1 f3 f4 f5⟩
  self := fun A i s Q E st h => wpAny_pyIter_enum st.1.choose_spec h
def iEnumT (K : PySem.W.Frag) (ta : TA) : TI := fun σ H R => ta σ H fun vs H1 => ∃ a xs, vs = [.ref a] ∧ SqT K H1 a xs ∧ R (IteT K a) H1
theorem pi_enumT {X : Cx} {e : Expr} {ta : TA} {p pos tpos : Pos} {elts : List Expr} {kk : Nat} (hg : Gl X "enumerate") (hm : X.mg "enumerate" = none) (ha : PA X [e] ta) (hs : starEach [e] X.env = [(false, eval e X.env)] := by rfl) :
    PI X (.Tuple elts kk tpos) (.Call (.Name "enumerate" p) [e] [] pos) (iEnumT X.K ta) := by
  refine ⟨fun pins s σ H R I hh => ?_⟩
  refine Call_ (ld_blt I hg hm boot_enumerate (PyProof.Rows.callWith_type1 (thn (ha.run pos pins s σ H _ I hh) fun us s1 ⟨vs, H1, I1, r1, q1⟩ => ?_) hs rfl))
  obtain ⟨a, xs, ex, hq, q⟩ := q1
  subst ex
  cases r1 with
  | cons r rr =>
    cases rr
    cases r
    obtain ⟨its, rv, p', hz⟩ := I1.tuple hq
    have hla : a < s1.heap.objs.size := p'.lt
    refine enumCallT p' fun h' he hit hsz hk => wpAny_pyIter_enum he ?_
    have I2 : Inv X pins σ H1 { s1 with heap := h' } := I1.kept (t' := s1.toks) hk
    refine ⟨s1.heap.objs.size + 1, [s1.heap.objs.size + 1, s1.heap.objs.size], _, _, H1, rfl, I2, turnEnumT a (s1.heap.objs.size + 1) s1.heap.objs.size, ⟨⟨.none, he⟩, hit, Nat.succ_ne_self _, Nat.ne_of_lt hla, fun z => absurd hla (by rw [← z]; exact Nat.not_lt.mpr (Nat.le_add_right _ _))⟩, fun b hb => ?_, q⟩
    have e' : b = s1.heap.objs.size + 1 ∨ b = s1.heap.objs.size := by simpa using hb
    have hle : s1.heap.objs.size ≤ b := by rcases e' with rfl | rfl; exact Nat.le_add_right _ _; exact Nat.le_refl _
    exact I1.fpOk hle (I1.hok.fresh hle)
/-- over the tuple at a: the pairs come new -/
theorem for_enumT {K : PySem.W.Frag} {a : Addr} {xs : List V} {g : TG} {tb : TS} {D : Ends} {σ : L2.St} {H : Hp} (Pv : Nat → L2.St → Hp → Prop) (h0 : Pv 0 σ H) (hl : ∀ i σ H, i ≤ xs.length → Pv i σ H → SqT K H a xs)
    (hs : ∀ i x σ H T, xs[i]? = some x → Pv i σ H → H T = none → g (.ref T) σ (upd H T (.tup [.int (i : Nat), x])) fun σ2 H2 => tb { D with nx := Pv (i + 1), ct := Pv (i + 1), bk := D.nx } σ2 H2) (hd : ∀ σ H, Pv xs.length σ H → D.nx σ H) :
    ∃ W : Nat → Nat → L2.St → Hp → Prop, (∃ m, W 0 m σ H) ∧ ∀ i m σ H, W i m σ H →
      ((IteT K a).stop i H ∧ D.nx σ H) ∨ ((IteT K a).go i H ∧ ∃ N : L2.St → Hp → Prop, (∀ σ' H', N σ' H' → ∃ m', m' < m ∧ W (i + 1) m' σ' H') ∧ ∀ x H', (IteT K a).yld i H x H' → g x σ H' fun σ2 H2 => tb { D with nx := N, ct := N, bk := D.nx } σ2 H2) := by
  refine ⟨fun i m σ H => m = xs.length - i ∧ i ≤ xs.length ∧ Pv i σ H, ⟨xs.length, by simp, Nat.zero_le _, h0⟩, ?_⟩
  rintro i m σ H ⟨rfl, hi, pv⟩
  have q := hl i σ H hi pv
  by_cases hlt : i < xs.length
  · refine .inr ⟨⟨xs, xs[i], q, by simp [hlt]⟩, Pv (i + 1), fun σ' H' p' => ⟨xs.length - (i + 1), by omega, rfl, hlt, p'⟩, fun v H' y => ?_⟩
    obtain ⟨T, x, rfl, hT, rfl, hx⟩ := y
    exact hs i x σ H T (hx xs q) pv hT
  · have e : i = xs.length := by omega
    subst e; exact .inl ⟨⟨xs, q, Nat.le_refl _⟩, hd σ H pv⟩
/-! ### defs that are called where no repr is under way -/
structure FnG (P : Program) (w : World) (K : PySem.W.Frag) (mg : Str → Option Value) (base : Heap) (CX : CXT) (k : Nat) (f : Addr) (fd : FuncData) (ps : List Str) (sp : Sp) : Prop where
  len : ∀ vs H Q E, sp vs H Q E → vs.length = ps.length
  go : ∀ (A : Around) (outer : List Env) (s : Shared) (H : Hp) (args : Args) (us : List Value) (vs : List V) (Q : VK) (E : XK), A.guards = some [] → Room k A → Env0 P w K mg base A outer s H →
    BindsTo s fd args (ps.zip us) → Vals vs us → sp vs H Q E → codeAny (model P w) A (.call (.ref f) args) (CR CX outer P w H s Q E) s
theorem FnG.of_ok {P : Program} {w : World} {K : PySem.W.Frag} {mg : Str → Option Value} {base : Heap} {CX : CXT} {k : Nat} {f : Addr} {fd : FuncData} {ps : List Str} {sp : Sp} (F : FnOk P w K mg base CX k f fd ps sp) : FnG P w K mg base CX k f fd ps sp :=
  ⟨F.len, fun A outer s H args us vs Q E _ => F.run A outer s H args us vs Q E⟩
section
variable {P : Program} {w : World} {K : PySem.W.Frag} {mg : Str → Option Value} {base : Heap}
theorem okG {x qual : Str} {st : Stmt} {f : Addr} {fd : FuncData} {N ps : List Str} {k : Nat} {sp : Sp} (F : Fun K x qual st f fd) (S : FnScope N ps (defScope st)) (len : ∀ vs H Q E, sp vs H Q E → vs.length = ps.length)
    (hbody : ∀ (cdv : Value) (A : Around) (outer : List Env) (s : Shared) (H : Hp) (vs : List V) (Q : VK) (E : XK), A.guards = some [] → Room k (A.deeper (envOfC qual (defScope st) s.heap.objs.size f cdv)) → sp vs H Q E →
      ∃ t, PSs (cxOf CX0 P w K mg base N qual (defScope st) f cdv A outer s H E).nox (defBody st) t ∧ t { nx := fun _ H' => Q .non H', rt := Q } (start N vs) H) : FnG P w K mg base CX0 (k + 1) f fd ps sp := by
  obtain ⟨oc, od, kV, doc, pm, an, cdv, ct, osl, rfl, lk, hcd⟩ := F.ex
  refine ⟨len, fun A outer s H args us vs Q E hgd hr e0 hb r hsp => ?_⟩
  have hlv := len _ _ _ _ hsp
  have kin := e0.mod.kin.keeps fun b o z => (e0.bs b o z).1
  have lim := e0.mod.nolimit.keeps fun b o z => (e0.bs b o z).1
  have hkd : ∀ y ∈ ps.zip us, (defScope st).names.lookup y.1 = some .local ∨ ((defScope st).names.lookup y.1 = some .cell ∧ ((cellsFrom (s.heap.objs.size + 1) (defScope st).names []).lookup y.1).isSome = true) := by
    rintro ⟨n, v⟩ hy
    exact (S.par n (List.of_mem_zip hy).1).imp id fun z => ⟨z, PySem.W.cellsFrom_some _ _ _ (.inl z)⟩
  refine codeAny_call_function hr.depth (kin _ _ lk) rfl S.co S.gen rfl (PySem.W.codeRec_of kin hcd) (hb _ _ _ _ (wpAny_newFunctionEnv_cells S.kind hkd fun env he s1 ic => ?_))
  subst he
  refine ⟨lim.keeps ic.toInCall.keep, codeAny_func ?_⟩
  obtain ⟨t, ht, hq⟩ := hbody cdv A outer s H vs Q E hgd (hr.deeper _) hsp
  have J0 : Inv (cxOf CX0 P w K mg base N qual (defScope st) f cdv A outer s H E) [] (start N vs) H s1 := inv_start S hr.hd e0 hlv r ic
  refine wpAny_mono (ht.nox.run [] s1 (start N vs) H _ J0 hq) (fun fl s' z => ?_) fun _ _ z => z
  cases fl with
  | ret u => exact let ⟨v, σ', H', J, rv, q⟩ := z; ⟨v, H', J.os, J.bare, J.base, J.hok, rv, q⟩
  | next => exact let ⟨σ', H', J, q⟩ := z; ⟨V.non, H', J.os, J.bare, J.base, J.hok, rfl, q⟩
  | brk => exact let ⟨_, _, _, q⟩ := z; q.elim
  | cont => exact let ⟨_, _, _, q⟩ := z; q.elim
/-- a def of the module by its name, called where no repr is under way -/
structure CalG (P : Program) (w : World) (K : PySem.W.Frag) (mg : Str → Option Value) (base : Heap) (k : Nat) (x : Str) (sp : Sp) : Prop where
  ex : ∃ (f : Addr) (fd : FuncData) (ps : List Str), FnG P w K mg base CX0 k f fd ps sp ∧ mg x = some (.ref f) ∧ PySem.W.keepIn K (.ref f) = true ∧ Binds K fd ps []
end
section
variable {X : Cx}
theorem pe_cG {k j : Nat} {x : Str} {sp : Sp} {e : Expr} {es : List Expr} {t : TA} {p pos : Pos} (c : CalG X.prog X.w X.K X.mg X.base k x sp) (hgd : X.A.guards = some []) (hr : Room j X.A) (hkj : k ≤ j) (hg : Gl X x) (ha : PA X (e :: es) t)
    (hdb : (x == ("__debug__" : Str)) = false := by decide) (he : starEach (e :: es) X.env = (false, eval e X.env) :: starEach es X.env := by rfl) (hpl : (backTo pos (starEach es X.env)).any (·.1) = false := by rfl) :
    PE X (.Call (.Name x p) (e :: es) [] pos) (tCall sp [] E0 t) := by
  obtain ⟨f, fd, ps, F, hm, kp, b⟩ := c.ex
  refine ⟨fun pins s σ H Q I hq => wpAny_Call_Name_kw (ld_glob I hg hm ?_ hdb)⟩
  refine PySem.W.callWith_K (h₀ := X.base) I.ok.mod.kin kp (thn (ha.run pos pins s σ H _ I hq) fun us s1 ⟨vs, H1, I1, r, q⟩ => ⟨I1.kIn, ?_⟩) he hpl
  have r2 : Vals (vs ++ []) (us ++ []) := r.append .nil
  have hl : (us ++ []).length = ps.length := by rw [← r2.length]; exact F.len _ _ _ _ q
  refine wpAny_call (codeAny_mono (F.go X.A X.stack s1 H1 ⟨us, []⟩ (us ++ []) (vs ++ []) Q E0 hgd (hr.mono hkj) I1.env0 (b s1 us I1.kIn hl) r2 q) fun r s' z => ?_)
  cases r with
  | error e => exact z.elim
  | ok fl =>
    cases fl with
    | ret u => exact I1.after z
    | next => exact z.elim
    | brk => exact z.elim
    | cont => exact z.elim
/-! ### repr of data -/
theorem call_reprD {k : Nat} (hgd : X.A.guards = some []) (hr : Room k X.A) : CallR X (.builtin "repr") (fun xs H Q => ∃ (y : V) (d : PyData), xs = [y] ∧ (∃ a, y = .ref a) ∧ Dp X.K H y d ∧ d.showable = true ∧ d.hasDict = false ∧ d.depth ≤ 64 ∧ d.shown.length ≤ sizeLine ∧ Q (.str d.shown) H) := by
  intro pins s σ H xs us Q I rx hq
  obtain ⟨y, d, rfl, ⟨a, rfl⟩, hd, h1, h2, h3, h4, q⟩ := hq
  cases rx with
  | cons r1 r2 =>
    cases r2
    cases r1
    obtain ⟨as, rd⟩ := Dp.reads I d (V.ref a) (Value.ref a) hd rfl
    have hu := hr.un
    exact repr_of_reads' rd h1 (PyData.noDict_hsm h2) hgd (by omega) (fun _ _ z => z) (fun h' u tk hk => ⟨.str d.shown, H, I.kept hk, ⟨u, rfl⟩, q⟩) h4
end
end LA
namespace LA
open PySem PySem.Spec PyProof.Rows L2
/-! ### rules with the written part named: within a comprehension's block -/
section
variable {X : Cx} {K : PySem.W.Frag}
theorem ixLK (K : PySem.W.Frag) (h : X.K = K := by rfl) : IxR X (rIxL K) := by subst h; exact ix_list
theorem ixTK (K : PySem.W.Frag) (h : X.K = K := by rfl) : IxR X (rIxT K) := by subst h; exact ix_tup
theorem catK (K : PySem.W.Frag) (h : X.K = K := by rfl) : OpR X (binaryOp .Add) (rCatA K) := by subst h; exact op_catA
theorem slTK (K : PySem.W.Frag) (h : X.K = K := by rfl) : SlR X (rSlA K) := by subst h; exact sl_tupA
theorem slLK (K : PySem.W.Frag) (h : X.K = K := by rfl) : SlR X (rSlL K) := by subst h; exact sl_list
theorem lenK (K : PySem.W.Frag) (h : X.K = K := by rfl) : CallR X (.builtin "len") (fun xs H Q => ∃ p ys, xs = [.ref p] ∧ (SqL K H p ys ∨ SqT K H p ys) ∧ Q (.int ys.length) H) := by subst h; exact call_len_seq
theorem tupK (K : PySem.W.Frag) (h : X.K = K := by rfl) : CallR X (.type "tuple") (fun xs H Q => ∃ p ys, xs = [.ref p] ∧ ((SqL K H p ys ∧ ∀ l, H l = none → Q (.ref l) (upd H l (.tup ys))) ∨ (SqT K H p ys ∧ Q (.ref p) H))) := by subst h; exact call_tuple_of
theorem lstK (K : PySem.W.Frag) (h : X.K = K := by rfl) : CallR X (.type "list") (fun xs H Q => ∃ p ys, xs = [.ref p] ∧ (SqL K H p ys ∨ SqT K H p ys) ∧ ∀ l, H l = none → Q (.ref l) (upd H l (.lst ys))) := by subst h; exact call_list_of
theorem sumK (K : PySem.W.Frag) (hc : X.calm = true := by rfl) (h : X.K = K := by rfl) : CallR X (.builtin "sum") (rSum K) := by subst h; exact cr_sum hc
theorem notInK (K : PySem.W.Frag) (h : X.K = K := by rfl) : OpR X (compareOp .NotIn) (rIn K true) := by subst h; exact op_notIn_seq
theorem inK (K : PySem.W.Frag) (h : X.K = K := by rfl) : OpR X (compareOp .In) (rIn K false) := by subst h; exact op_in_seq
theorem piLK {tg l : Expr} {tl : TE} (K : PySem.W.Frag) (hl : PE X l tl) (h : X.K = K := by rfl) : PI X tg l (iList K tl) := by subst h; exact pi_list hl
theorem piTK {tg l : Expr} {tl : TE} (K : PySem.W.Frag) (hl : PE X l tl) (h : X.K = K := by rfl) : PI X tg l (iTup K tl) := by subst h; exact pi_tup hl
end
end LA
namespace LA
open PySem PySem.Spec PyProof.Rows L2
theorem catOne {K : PySem.W.Frag} {H : Hp} {a b : Addr} {xs ys : List V} {Q : VK} (h1 : SqT K H a xs) (h2 : SqT K H b ys) (hl : xs.length + ys.length ≤ sizeLine)
    (k : ∀ (H' : Hp) (q : Addr), Same H H' → SqT K H' q (xs ++ ys) → Q (.ref q) H') : rCatA K (.ref a) (.ref b) H Q := by
  refine ⟨a, b, xs, ys, rfl, rfl, h1, h2, hl, fun e => ?_, fun _ e => ?_, fun _ _ p hp => ?_⟩
  · subst e; exact k H b (Same.refl H) h2
  · subst e; exact k H a (Same.refl H) (by simpa using h1)
  · exact k _ p ((Same.refl H).new hp) (SqT.of upd_same)
theorem cut_whole {xs : List V} {lo hi : Option Int} (h : HT.sIx xs.length 0 lo = 0 ∧ HT.sIx xs.length xs.length hi = xs.length) : cutV xs lo hi = xs := by
  unfold cutV; rw [h.1, h.2]; simp
theorem slOne {K : PySem.W.Frag} {H : Hp} {a : Addr} {xs : List V} {lo hi : Option Int} {Q : VK} (h1 : SqT K H a xs)
    (k : ∀ (H' : Hp) (q : Addr), Same H H' → SqT K H' q (cutV xs lo hi) → Q (.ref q) H') : rSlA K (.ref a) lo hi H Q := by
  refine ⟨a, xs, rfl, h1, fun e => ?_, fun _ p hp => ?_⟩
  · exact k H a (Same.refl H) (by rw [cut_whole e]; exact h1)
  · exact k _ p ((Same.refl H).new hp) (SqT.of upd_same)
/-- t[k:] -/
theorem cut_from {xs : List V} {k : Nat} (h : k ≤ xs.length) : cutV xs (some (k : Int)) none = xs.drop k := by
  unfold cutV HT.sIx
  simp
  rw [if_neg (by omega), List.take_of_length_le (by simp), Nat.min_eq_left h]
/-! ### words as data -/
def nD (x : Nat) : PyData := .int (x : Int)
def wD (w : List Nat) : PyData := .tuple (w.map nD)
theorem dp_nats {K : PySem.W.Frag} {H : Hp} : ∀ w : List Nat, DpAll K H (w.map nV) (w.map nD)
  | [] => .nil
  | n :: ns => .cons (.int _) (dp_nats ns)
theorem WordAt.dp {K : PySem.W.Frag} {H : Hp} {v : V} {w : List Nat} (h : WordAt K H v w) : Dp K H v (wD w) := by
  obtain ⟨a, rfl, q⟩ := h
  exact .tup q (dp_nats w)
theorem words_dp {K : PySem.W.Frag} {H : Hp} : ∀ {vs : List V} {ws : List (List Nat)}, Paired (WordAt K H) vs ws → DpAll K H vs (ws.map wD)
  | _, _, .nil => .nil
  | _, _, .cons r t => .cons r.dp (words_dp t)
theorem nats_lay : ∀ ns : List Nat, PyData.canLayAll0 (ns.map nD) = true ∧ PyData.depthAll (ns.map nD) = 0
  | [] => by simp [PyData.canLayAll0, PyData.depthAll]
  | n :: ns => by have h := nats_lay ns; simp [nD, PyData.canLayAll0, PyData.canLay0, PyData.depthAll, PyData.depth, h.1, h.2]
theorem wD_lay (w : List Nat) : (wD w).canLay0 = true ∧ (wD w).depth = 1 := by
  have h := nats_lay w
  simp [wD, PyData.canLay0, PyData.depth, h.1, h.2]
theorem wD_shaped (w : List Nat) : SeqAt.shaped (wD w) = true := by
  have h := wD_lay w
  show ((wD w).canLay0 && decide ((wD w).depth ≤ 64)) = true
  rw [h.1, h.2]; decide
theorem wDs_lay : ∀ ws : List (List Nat), PyData.canLayAll0 (ws.map wD) = true ∧ PyData.depthAll (ws.map wD) ≤ 1
  | [] => by simp [PyData.canLayAll0, PyData.depthAll]
  | w :: ws => by
    have h := wDs_lay ws; have h2 := wD_lay w
    simp [PyData.canLayAll0, PyData.depthAll, h.1, h2.1, h2.2]; have := h.2; omega
theorem wDs_shaped (ws : List (List Nat)) : SeqAt.shaped (.list (ws.map wD)) = true := by
  have h := wDs_lay ws
  show (PyData.canLay0 (.list (ws.map wD)) && decide (PyData.depth (.list (ws.map wD)) ≤ 64)) = true
  have h3 : PyData.depth (.list (ws.map wD)) ≤ 64 := by simp only [PyData.depth]; have := h.2; omega
  rw [decide_eq_true h3]; simp [PyData.canLay0, h.1]
theorem nats_eqv : ∀ u w : List Nat, PyData.eqvAll (u.map nD) (w.map nD) = decide (u = w)
  | [], [] => by simp [PyData.eqvAll]
  | [], _ :: _ => by simp [PyData.eqvAll]
  | _ :: _, [] => by simp [PyData.eqvAll]
  | a :: u, b :: w => by
    have h := nats_eqv u w
    rw [List.map_cons, List.map_cons, PyData.eqvAll, h]; unfold nD; rw [PyData.eqv]
    by_cases e : a = b
    · subst e; simp
    · simp [e]; intro z; omega
theorem wD_eqv (u w : List Nat) : PyData.eqv (wD u) (wD w) = decide (u = w) := by
  simp only [wD, PyData.eqv]; exact nats_eqv u w
def ixOf (ws : List (List Nat)) (w : List Nat) : Nat := ws.findIdx fun u => decide (u = w)
theorem ixOf_at {ws : List (List Nat)} {w : List Nat} (h : w ∈ ws) : ixOf ws w < ws.length ∧ ws[ixOf ws w]? = some w ∧ ∀ (m : Nat) (u : List Nat), m < ixOf ws w → ws[m]? = some u → u ≠ w := by
  have hlt : ixOf ws w < ws.length := List.findIdx_lt_length_of_exists ⟨w, h, by simp⟩
  refine ⟨hlt, ?_, fun m u hm hu e => ?_⟩
  · rw [List.getElem?_eq_getElem hlt]
    have := List.findIdx_getElem (w := hlt)
    simp at this
    exact congrArg some this
  · have h1 := List.not_of_lt_findIdx hm
    obtain ⟨h2, h3⟩ := List.getElem?_eq_some_iff.mp hu
    rw [h3] at h1
    simp [e] at h1
theorem indexOne {K : PySem.W.Frag} {H : Hp} {l : Addr} {us : List V} {ws : List (List Nat)} {v : V} {w : List Nat} {Q : VK} (hl : SqL K H l us) (hp : Paired (WordAt K H) us ws) (hv : WordAt K H v w) (hm : w ∈ ws)
    (q : Q (.int (ixOf ws w : Nat)) H) : rIndexD K (.ref l) [v] H Q := by
  obtain ⟨h1, h2, h3⟩ := ixOf_at hm
  refine ⟨l, v, wD w, ws.map wD, ixOf ws w, wD w, rfl, rfl, .lst hl (words_dp hp), hv.dp, wDs_shaped ws, wD_shaped w, by rw [List.getElem?_map, h2]; rfl, by rw [wD_eqv]; simp, fun m z hm2 hz => ?_, q⟩
  rw [List.getElem?_map] at hz
  cases e : ws[m]? with
  | none => rw [e] at hz; cases hz
  | some u =>
    rw [e] at hz
    have hz2 : wD u = z := Option.some.inj hz
    rw [← hz2, wD_eqv]
    exact decide_eq_false (h3 m u hm2 e)
end LA

namespace LA
open PySem PySem.Spec PyProof.Rows L2
/-- what the law's call comes to, from the promise of its def -/
theorem lawG {P : Program} {w : World} {K : PySem.W.Frag} {mg mb : Str → Option Value} {k : Nat} {fa a : Addr} {fd : FuncData} {x : Str} {sp : Sp} {s1 : Shared} {vs : List Value} {ns : List Int}
    (kin : K.In s1.heap) (hns : s1.heap.Ns mainGlobals mg) (hbn : s1.heap.Ns builtinsNs mb) (hbb : ∀ x : Str, x ≠ "__name__" → mb x = bootBuiltins x) (hlim : s1.heap.NoLimit) (hgn : s1.gens = #[])
    (hobj : s1.heap.get? a = some { cls := .type "list", data := .seq vs.toArray }) (hi : IntsAre vs ns) (hl : ns.length ≤ sizeLine) (hr : Room k callerA)
    (F : ∀ base : Heap, K.In base → base.Ns mainGlobals mg → FnG P w K mg base CX0 k fa fd [x] sp) (hbind : ∀ (s : Shared) (u : Value), BindsTo s fd ⟨[u], []⟩ [(x, u)])
    (hsp : ∀ H : Hp, Only H → SqL K H a (ns.map V.int) → sp [.ref a] H (fun v _ => v = .bl true) fun _ _ _ => False) :
    codeAny (model P w) callerA (.call (.ref fa) ⟨[.ref a], []⟩) (fun r s' => r = .ok (.ret (.bool true)) ∧ OldK s1.heap s'.heap ∧ s'.os = s1.os ∧ AllBare s'.gens) s1 := by
  have rv := vals_ints hi
  have lv := hi.length
  have core : ∀ H : Hp, Only H → SqL K H a (ns.map V.int) → HOk P w H s1.heap → (∀ b u, H b = some u → b = a) → (∀ u, H a = some u → K.lookup a = none) →
      codeAny (model P w) callerA (.call (.ref fa) ⟨[.ref a], []⟩) (fun r s' => r = .ok (.ret (.bool true)) ∧ OldK s1.heap s'.heap ∧ s'.os = s1.os ∧ AllBare s'.gens) s1 := by
    intro H hO hS hok hA hK
    have up : ∀ {b : Addr} {o : Obj}, s1.heap.get? b = some o → H b = none → (hidT s1.heap H).get? b = some o := fun e n => hidT_get e n
    have nsU : ∀ {b : Addr} {m : Str → Option Value}, s1.heap.Ns b m → (hidT s1.heap H).Ns b m := by
      rintro b m ⟨o, es, ep, e, d, r⟩
      refine ⟨o, es, ep, up e ?_, d, r⟩
      cases z : H b with
      | none => rfl
      | some u =>
        obtain rfl := hA b u z
        rw [hobj] at e; cases e
        have d' : Data.seq vs.toArray _ = Data.dict es ep := d
        cases d'
    have kinH : K.In (hidT s1.heap H) := fun b o e => up (kin b o e) (by
      cases z : H b with
      | none => rfl
      | some u =>
        obtain rfl := hA b u z
        rw [hK u z] at e; cases e)
    have md : Mod K mg (hidT s1.heap H) := ⟨kinH, nsU hns, ⟨mb, nsU hbn, hbb⟩, hlim.elim fun mc z => ⟨mc, nsU z.1, z.2⟩⟩
    have ev : Env0 P w K mg (hidT s1.heap H) callerA [] s1 H := ⟨rfl, md, fun b o e => of_hidT e, Nat.le_of_eq (hidT_size _ _), trivial, fun b hb => (List.not_mem_nil hb).elim, hok, .of_eq hgn⟩
    refine codeAny_mono ((F _ kinH (nsU hns)).go callerA [] s1 H ⟨[.ref a], []⟩ [.ref a] [.ref a] _ _ rfl hr ev (hbind s1 (.ref a)) (.cons rfl .nil) (hsp H hO hS)) fun r s' z => ?_
    cases r with
    | error e => exact z.elim
    | ok fl =>
      cases fl with
      | next => exact z.elim
      | brk => exact z.elim
      | cont => exact z.elim
      | ret u =>
        obtain ⟨v, H', os, bare, un, hok', r', q⟩ := z
        obtain rfl : v = .bl true := q
        obtain rfl : u = Value.bool true := r'
        refine ⟨rfl, OldK.of_keep fun b o e => ?_, os, bare⟩
        cases zb : H b with
        | none => exact un.keep b o e zb (fun z => (List.not_mem_nil z).elim) (fun z => (List.not_mem_nil z).elim)
        | some u =>
          rcases hO b with z | ⟨ob, xs, z⟩
          · rw [zb] at z; cases z
          · obtain ⟨e1, _⟩ := hok b _ z
            obtain ⟨e2, _⟩ := hok' b _ (un.frzs b ob _ z)
            rw [e] at e1; cases e1; exact e2
  cases hk : K.lookup a with
  | some o =>
    have e := kin a o hk
    rw [hobj] at e; cases e
    exact core (fun _ => none) (fun _ => .inl rfl) (.inr ⟨_, vs.toArray, _, hk, rfl, rfl, rfl, by rw [List.size_toArray, lv]; exact hl, by simpa using rv⟩) (fun b u z => nomatch (show (none : Option HO) = some u from z)) (fun b u z => nomatch (show (none : Option HO) = some u from z)) fun u z => nomatch (show (none : Option HO) = some u from z)
  | none =>
    let o0 : Obj := { cls := .type "list", data := .seq vs.toArray }
    refine core (fun b => if b = a then some (.frz o0 (.lst (ns.map V.int))) else none) (fun b => ?_) (.inl (.inr ⟨o0, if_pos rfl⟩)) (fun b u z => ?_) (fun b u z => ?_) fun _ _ => hk
    · by_cases hb : b = a
      · exact .inr ⟨_, _, if_pos hb⟩
      · exact .inl (if_neg hb)
    · by_cases hb : b = a
      · have z' := (if_pos hb).symm.trans z
        cases z'; subst hb
        exact ⟨hobj, by rw [List.length_map]; exact hl, vs, _, rv, hobj⟩
      · exact nomatch (if_neg hb).symm.trans z
    · by_cases hb : b = a
      · exact hb
      · exact nomatch (if_neg hb).symm.trans z
theorem walkG {l : PySem.W.OpenLaw} {n k : Nat} {q : Program} {loose : List Str} {XP : (Str → Option Value) → Heap → Prop} {YP : World → Heap → Prop} {d : DefRec} {K : Params → PySem.W.Frag} {sp : PySem.W.Frag → Sp} {x : Str}
    (hn : l.most = some n) (hn2 : n ≤ sizeLine) (hdf : d.params.defaults = []) (hr : Room k callerA) (hY : ∀ (w : World) (h : Heap), YP w h → (K w.params).In h)
    (F : ∀ (w : World) (mg : Str → Option Value) (fa : Addr) (h : Heap), (K w.params).In h → h.Ns mainGlobals mg → mg d.name = some (.ref fa) →
      ∃ fd : FuncData, (∀ (s : Shared) (u : Value), BindsTo s fd ⟨[u], []⟩ [(x, u)]) ∧ ∀ base : Heap, (K w.params).In base → base.Ns mainGlobals mg → FnG l.prog w (K w.params) mg base CX0 k fa fd [x] (sp (K w.params)))
    (hsp : ∀ (K : PySem.W.Frag) (H : Hp) (a : Addr) (ns : List Int), ns.length ≤ n → SqL K H a (ns.map V.int) → sp K [.ref a] H (fun v _ => v = .bl true) fun _ _ _ => False) :
    PySem.W.WalkO q loose XP YP l.row.toRowW d [] (fun f vs => PySem.call f vs) := by
  refine Att.attach_call hn hdf fun w s₀ s₁ mg mb fa o pm cd doc a vs ns G Y ho hd hcd hmg hobj hints hlen hgn => ?_
  obtain ⟨fd, hb, hF⟩ := F w mg fa _ (hY w _ Y) G.T.g hmg
  exact lawG (hY w _ Y) G.T.g G.T.b G.T.builtins G.T.nolimit hgn hobj hints (Nat.le_trans hlen hn2) hr hF hb fun H _ hS => hsp (K w.params) H a ns hlen hS
/-- the promise of every law's own def -/
def spLaw (K : PySem.W.Frag) : Sp := fun vs H Q _ => ∃ (a : Addr) (ns : List Int), vs = [.ref a] ∧ SqL K H a (ns.map V.int) ∧ ns.length ≤ 63 ∧ ∀ H', Q (.bl true) H'
/-- the promise of the def that judges one pot -/
def spRight : Sp := fun vs H Q _ => ∃ (p : Addr), vs = [.ref p] ∧ PotAt H p 0 ∧ ∀ H', SameX p H H' → Q (.bl true) H'
end LA

namespace LA
open PySem L2
theorem reprRoom {A : Around} {k : Nat} (hr : Room k A) : A.units + 65 < cLine := by have := hr.un; omega
def later (F : Nat) (w : List Nat) (y : Nat) : List Nat := (w ++ [y]).drop (if w.length = F then 1 else 0)
def furE (L F : Nat) (w : List Nat) (x y : Nat) : Option Nat := if w.length < F ∨ (w ++ [y]).head? = some x then some (ixOf (plcs L F) (later F w y)) else none
def furR (L F : Nat) (w : List Nat) (x : Nat) : Rw := (List.range L).map (furE L F w x)
def furS (L F : Nat) (w : List Nat) : Sd := (List.range L).map (furR L F w)
def furJ (L F : Nat) : Jd := (plcs L F).map (furS L F)
theorem later_mem {L F : Nat} {w : List Nat} {y : Nat} (hF : 1 ≤ F) (hw : w ∈ plcs L F) (hy : y < L) : later F w y ∈ plcs L F := by
  obtain ⟨h1, h2⟩ := mem_plcs.mp hw
  refine mem_plcs.mpr ⟨?_, fun x hx => ?_⟩
  · unfold later
    split <;> simp <;> omega
  · have hx2 := List.mem_of_mem_drop hx
    simp at hx2
    rcases hx2 with hx2 | rfl
    · exact h2 x hx2
    · exact hy
theorem furJ_is {L F : Nat} (hL : 1 ≤ L) (hL4 : L ≤ 4) (hF : 1 ≤ F) (h8 : (plcs L F).length ≤ 8) : IsJ (furJ L F) L L := by
  have hn : (furJ L F).length = (plcs L F).length := by simp [furJ]
  refine ⟨?_, by omega, hL, hL4, hL, hL4, ?_⟩
  · rw [hn]; exact List.length_pos_of_mem (mem_plcs.mpr ⟨Nat.zero_le _, by simp⟩ : [] ∈ plcs L F)
  · intro s hs
    simp only [furJ, List.mem_map] at hs
    obtain ⟨w, hw, rfl⟩ := hs
    refine ⟨by simp [furS], fun r hr => ?_⟩
    simp only [furS, List.mem_map, List.mem_range] at hr
    obtain ⟨x, hx, rfl⟩ := hr
    refine ⟨by simp [furR], fun m hm => ?_⟩
    simp only [furR, List.mem_map, List.mem_range] at hm
    obtain ⟨y, hy, e⟩ := hm
    unfold furE at e
    split at e
    · cases e
      rw [hn]; exact (ixOf_at (later_mem hF hw hy)).1
    · cases e
def spFurther (K : PySem.W.Frag) : Sp := fun vs H Q _ => ∃ (L F : Nat), vs = [.int (L : Int), .int (F : Int)] ∧ 1 ≤ L ∧ L ≤ 4 ∧ 1 ≤ F ∧ F ≤ 3 ∧ (plcs L F).length ≤ 8 ∧
  ∀ (H' : Hp) (v : V), Same H H' → JAt K H' v (furJ L F) → Q v H'
theorem head_at {w : List Nat} {y : Nat} : ∃ z, ((w ++ [y]).map nV)[0]? = some (nV z) ∧ (w ++ [y]).head? = some z := by
  cases w with
  | nil => exact ⟨y, rfl, rfl⟩
  | cons a w => exact ⟨a, rfl, rfl⟩
end LA

namespace LA
open PySem L2
def okE (n : Nat) : Option Nat → Bool
  | none => true
  | some m => decide (m < n)
def isJb (j : Jd) (nx ny : Nat) : Bool :=
  decide (1 ≤ j.length) && decide (j.length ≤ 8) && decide (1 ≤ nx) && decide (nx ≤ 4) && decide (1 ≤ ny) && decide (ny ≤ 4) && j.all fun s => decide (s.length = nx) && s.all fun r => decide (r.length = ny) && r.all (okE j.length)
theorem isJb_is {j : Jd} {nx ny : Nat} (h : isJb j nx ny = true) : IsJ j nx ny := by
  unfold isJb at h
  simp only [Bool.and_eq_true, decide_eq_true_eq, List.all_eq_true] at h
  obtain ⟨⟨⟨⟨⟨⟨h1, h2⟩, h3⟩, h4⟩, h5⟩, h6⟩, h7⟩ := h
  refine ⟨h1, h2, h3, h4, h5, h6, fun s hs => ⟨(h7 s hs).1, fun r hr => ⟨((h7 s hs).2 r hr).1, fun m hm => ?_⟩⟩⟩
  have := ((h7 s hs).2 r hr).2 _ hm
  simpa [okE] using this
def parF (ph x y : Nat) : Option Nat := if 1 < ph then some (1 + (x + y) % 2) else if (x + y) % 2 = 0 then some 0 else none
def parA (ph phase rest x : Nat) : Option Nat := if phase + 1 < ph then some (1 + 2 * phase + (rest + x) % 2) else if (rest + x) % 2 = 0 then some 0 else none
def parR0 (ph x : Nat) : Rw := (List.range 2).map (parF ph x)
def parR (ph phase rest x : Nat) : Rw := [parA ph phase rest x, parA ph phase rest x]
def parS (ph phase rest : Nat) : Sd := (List.range 2).map (parR ph phase rest)
def parJ (ph : Nat) : Jd := (List.range 2).map (parR0 ph) :: (List.range (ph - 1)).flatMap fun p => (List.range 2).map (parS ph (p + 1))
theorem parJ_is {ph : Nat} (h1 : 1 ≤ ph) (h4 : ph ≤ 4) : IsJ (parJ ph) 2 2 := by
  apply isJb_is
  match ph, h1, h4 with
  | 1, _, _ => decide
  | 2, _, _ => decide
  | 3, _, _ => decide
  | 4, _, _ => decide
def spParity (K : PySem.W.Frag) : Sp := fun vs H Q _ => ∃ (ph : Nat), vs = [.int (ph : Int)] ∧ 1 ≤ ph ∧ ph ≤ 4 ∧ ∀ (H' : Hp) (v : V), Same H H' → JAt K H' v (parJ ph) → Q v H'
def endJ : Jd := [[[some 1, some 2], [some 0, none], [none, some 0]], [[some 1, some 1], [some 0, some 0], [none, none]], [[some 2, some 2], [none, none], [some 0, some 0]]]
theorem endJ_is : IsJ endJ 3 2 := isJb_is (by decide)
def spEndless (K : PySem.W.Frag) : Sp := fun vs H Q _ => vs = [] ∧ ∀ (H' : Hp) (v : V), Same H H' → JAt K H' v endJ → Q v H'
theorem two_at {i : Nat} {x : V} (h : ([V.int 0, V.int 1] : List V)[i]? = some x) : i < 2 ∧ x = .int (i : Int) := by
  match i, h with
  | 0, h => simp at h; exact ⟨by decide, h.symm⟩
  | 1, h => simp at h; exact ⟨by decide, h.symm⟩
  | i + 2, h => simp at h
theorem mod2 (a b : Nat) : ((a : Int) + (b : Int)) % 2 = (((a + b) % 2 : Nat) : Int) := by omega
end LA
namespace LA
open PySem L2
/-! places in a text -/
def noS : Stmt := .Pass ⟨0, 0, 0, 0⟩
def noE : Expr := .Constant .none 0 ⟨0, 0, 0, 0⟩
def lcS : Expr → Scope
  | .ListComp _ _ sc _ => sc
  | _ => { kind := .function, names := [], isGenerator := false, isCoroutine := false }
def lcE : Expr → Expr
  | .ListComp e _ _ _ => e
  | _ => noE
def asgV : Stmt → Expr
  | .Assign _ v _ => v
  | .Return (some v) _ => v
  | .Expr v _ => v
  | _ => noE
def arg0 : Expr → Expr
  | .Call _ (a :: _) _ _ => a
  | _ => noE
structure Grid (H : Hp) (fl : Addr) (n nx ny : Nat) (S : Nat → Addr) (A : Nat → Nat → Addr) (c : Nat → Nat → Rw) : Prop where
  top : H fl = some (.lst ((List.range n).map fun a => V.ref (S a)))
  st : ∀ a, a < n → H (S a) = some (.lst ((List.range nx).map fun b => V.ref (A a b)))
  rw : ∀ a b, a < n → b < nx → H (A a b) = some (.lst ((c a b).map oV))
  inj : ∀ a b a' b', a < n → b < nx → a' < n → b' < nx → A a b = A a' b' → a = a' ∧ b = b'
  nS : ∀ a b a', a < n → b < nx → a' < n → A a b ≠ S a'
  nF : ∀ a b, a < n → b < nx → A a b ≠ fl
  ok : ∀ a b, a < n → b < nx → (c a b).length = ny ∧ ∀ m, some m ∈ c a b → m < n
section
variable {H H' : Hp} {fl : Addr} {n nx ny : Nat} {S : Nat → Addr} {A : Nat → Nat → Addr} {c : Nat → Nat → Rw}
theorem Grid.same (g : Grid H fl n nx ny S A c) (s : Same H H') : Grid H' fl n nx ny S A c :=
  ⟨s _ _ g.top, fun a h => s _ _ (g.st a h), fun a b h h' => s _ _ (g.rw a b h h'), g.inj, g.nS, g.nF, g.ok⟩
theorem Grid.put (g : Grid H fl n nx ny S A c) {a b k : Nat} {o : Option Nat} (ha : a < n) (hb : b < nx) (hk : k < ny) (ho : ∀ m, o = some m → m < n) :
    Grid (upd H (A a b) (.lst (((c a b).map oV).set k (oV o)))) fl n nx ny S A (fun a' b' => if a' = a ∧ b' = b then (c a b).set k o else c a' b') := by
  refine ⟨?_, fun a' h => ?_, fun a' b' h h' => ?_, g.inj, g.nS, g.nF, fun a' b' h h' => ?_⟩
  · rw [upd_ne (Ne.symm (g.nF a b ha hb))]; exact g.top
  · rw [upd_ne (Ne.symm (g.nS a b a' ha hb h))]; exact g.st a' h
  · by_cases e : a' = a ∧ b' = b
    · rw [if_pos e, e.1, e.2, upd_same, List.map_set]
    · rw [if_neg e, upd_ne (fun z => e (g.inj a' b' a b h h' ha hb z))]; exact g.rw a' b' h h'
  · by_cases e : a' = a ∧ b' = b
    · rw [if_pos e]
      refine ⟨by rw [List.length_set]; exact (g.ok a b ha hb).1, fun m hm => ?_⟩
      rcases List.mem_or_eq_of_mem_set hm with z | z
      · exact (g.ok a b ha hb).2 m z
      · exact ho m z.symm
    · rw [if_neg e]; exact g.ok a' b' h h'
end
/-- a permutation of the numbers below n, as ints -/
def permN (n : Nat) (ms : List Int) : Prop := ms.length = n ∧ ∀ (i : Nat), i < n → ∃ k : Nat, ms[i]? = some (k : Int) ∧ k < n
def spTurned (K : PySem.W.Frag) : Sp := fun vs H Q _ => ∃ (v : V) (ol xl yl : Addr) (j : Jd) (nx ny : Nat) (os xs ys : List Int), vs = [v, .ref ol, .ref xl, .ref yl] ∧ JAt K H v j ∧ IsJ j nx ny ∧
  H ol = some (.lst (os.map V.int)) ∧ H xl = some (.lst (xs.map V.int)) ∧ H yl = some (.lst (ys.map V.int)) ∧ permN j.length os ∧ permN nx xs ∧ permN ny ys ∧
  ∀ (H' : Hp) (v' : V) (j' : Jd), Same H H' → JAt K H' v' j' → IsJ j' nx ny → j'.length = j.length → Q v' H'
end LA
namespace LA
open PySem L2
theorem range_ext {α : Type} {f f' : Nat → α} {m : Nat} {x : α} (h : ∀ i, i < m → f' i = f i) (hx : f' m = x) : (List.range (m + 1)).map f' = (List.range m).map f ++ [x] := by
  rw [List.range_succ, List.map_append]
  congr 1
  · exact List.map_congr_left fun i hi => h i (List.mem_range.mp hi)
  · simp [hx]
theorem at_range {α : Type} {f : Nat → α} {n i : Nat} (h : i < n) : ((List.range n).map f)[i]? = some (f i) := by
  simp [h]
theorem at_perm {n : Nat} {ms : List Int} (p : permN n ms) {i : Nat} (h : i < n) : ∃ k : Nat, (ms.map V.int)[i]? = some (V.int (k : Int)) ∧ k < n := by
  obtain ⟨k, h1, h2⟩ := p.2 i h
  exact ⟨k, by rw [List.getElem?_map, h1]; rfl, h2⟩
end LA
namespace LA
open PySem L2
theorem perm_rg {n : Nat} {ms : List Int} (h : ms.Perm ((List.range n).map fun i => ((i : Nat) : Int))) : permN n ms := by
  refine ⟨by simpa using h.length_eq, fun i hi => ?_⟩
  have hl : i < ms.length := by rw [h.length_eq]; simpa using hi
  have hm : ms[i] ∈ ((List.range n).map fun i => ((i : Nat) : Int)) := h.mem_iff.mp (List.getElem_mem hl)
  simp only [List.mem_map, List.mem_range] at hm
  obtain ⟨k, hk, e⟩ := hm
  exact ⟨k, by rw [List.getElem?_eq_getElem hl, ← e], hk⟩
theorem perm_rg1 {n : Nat} {ms : List Int} (hn : 1 ≤ n) (h : ms.Perm ((List.range (n - 1)).map fun i => 1 + ((i : Nat) : Int))) : permN n (0 :: ms) := by
  have hln : ms.length = n - 1 := by simpa using h.length_eq
  refine ⟨by simp; omega, fun i hi => ?_⟩
  cases i with
  | zero => exact ⟨0, rfl, by omega⟩
  | succ i =>
    have hl : i < ms.length := by omega
    have hm : ms[i] ∈ ((List.range (n - 1)).map fun i => 1 + ((i : Nat) : Int)) := h.mem_iff.mp (List.getElem_mem hl)
    simp only [List.mem_map, List.mem_range] at hm
    obtain ⟨k, hk, e⟩ := hm
    refine ⟨1 + k, ?_, by omega⟩
    rw [List.getElem?_cons_succ, List.getElem?_eq_getElem hl, ← e]
    congr 1
theorem rgV_0 (n : Nat) : rgV 0 (n : Int) = ((List.range n).map fun i => ((i : Nat) : Int)).map V.int := by
  unfold rgV
  have e : ((n : Int) - 0).toNat = n := by omega
  rw [e, List.map_map]
  exact List.map_congr_left fun i _ => by simp
theorem rgV_1 (n : Nat) : rgV 1 (n : Int) = ((List.range (n - 1)).map fun i => 1 + ((i : Nat) : Int)).map V.int := by
  unfold rgV
  have e : ((n : Int) - 1).toNat = n - 1 := by omega
  rw [e, List.map_map]
  exact List.map_congr_left fun i _ => rfl
def LeastV (v : V) : Prop := v = .non ∨ ∃ k : Nat, v = .int (k : Int) ∧ k ≤ 3
def PairAt (K : PySem.W.Frag) (H : Hp) (v : V) : Prop := ∃ (t : Addr) (vj ls : V) (j : Jd) (nx ny : Nat), v = .ref t ∧ SqT K H t [vj, ls] ∧ JAt K H vj j ∧ IsJ j nx ny ∧ nx ≤ 3 ∧ ny ≤ 3 ∧ LeastV ls
theorem PairAt.t {K : PySem.W.Frag} {H H' : Hp} {v : V} (h : PairAt K H v) (s : SameT H H') : PairAt K H' v := by
  obtain ⟨t, vj, ls, j, nx, ny, e, q, hj, r⟩ := h
  exact ⟨t, vj, ls, j, nx, ny, e, s.seq q, hj.t s, r⟩
def spKnown (K : PySem.W.Frag) : Sp := fun vs H Q _ => ∃ (p : Addr) (n : Nat), vs = [.ref p] ∧ PotAt H p n ∧ n < 900000 ∧
  ∀ (H' : Hp) (v : V), SameX p H H' → PotAt H' p (n + 40) → PairAt K H' v → Q v H'
def spOneOf (K : PySem.W.Frag) : Sp := fun vs H Q _ => ∃ (p : Addr) (n : Nat), vs = [.ref p] ∧ PotAt H p n ∧ n < 800000 ∧
  ∀ (H' : Hp) (v : V) (j : Jd) (nx ny : Nat), SameX p H H' → PotAt H' p (n + 400) → JAt K H' v j → IsJ j nx ny → Q v H'
theorem c1 (r : Nat) : V.int (1 + (r : Int)) = V.int ((1 + r : Nat) : Int) := by congr 1
end LA

namespace LA
open PySem PySem.Spec PyProof.Rows L2
/-- a set that was just made, as the world orders it -/
abbrev bareSet (w : World) : Obj := { cls := .type "set", dict := none, data := .set #[] 0 (.fresh 0 0 (!w.params.followText "set-order")) }
section
variable {P : Program} {w : World} {A : Around} {E : Value → Shared → Prop}
/-- a bare set at S is filled with the ints of the list at l: what its __init__ comes to -/
theorem fillSet {st : Shared} {S l : Addr} {its : Array Value} {ns : List Int} {G : Result → Shared → Prop} (hd : A.handled = none) (hS : st.heap.get? S = some (bareSet w)) (hl : st.heap.IsList l its) (hi : IntsAre its.toList ns) (room : ns.length + 1 < scanBound)
    (end_ : ∀ (h' : Heap) (tk c : Nat), SetR w h' S (fun j => decide (j ∈ ns)) c → c ≤ ns.length → (∀ b o, b ≠ S → st.heap.get? b = some o → h'.get? b = some o) → G (.ok (.ret .none)) { st with heap := h', toks := tk }) :
    codeAny (model P w) A (.call (.builtin "set.__init__") ⟨[.ref S, .ref l], []⟩) G st := by
  have len : its.size = ns.length := by simpa using IntsAre.length hi
  obtain ⟨⟨cl, dc, da, sl⟩, hol, e1, nl, e2⟩ := hl
  obtain rfl : cl = .type "list" := e1
  obtain rfl : da = .seq its nl := e2
  have a1 := F.sub_list_set
  have a2 := F.sub_list_frozenset
  have a3 : (Value.type "list" == Value.type "dict") = false := by decide
  have isl : st.heap.IsList l its := ⟨_, hol, rfl, nl, rfl⟩
  refine codeAny_call_builtin F.called_set.init.plain F.entry_set_init (check_set_init_1 ⟨_, hS, rfl⟩ ?_)
  unfold Builtin.«set.__init__» noKeywords Builtin.Frozenset.updateFrom
  generalize pi : pyIter = PI
  wp_walk
  subst pi
  refine wpAny_pyIter_list isl (wpAny_bind (wpAny_runValue ?_))
  have nSl : S ≠ l := fun z => by rw [z, hol] at hS; exact absurd (congrArg (fun o : Option Obj => o.map Obj.cls) hS) (by simp)
  have bS : S < st.heap.objs.size := Heap.lt_size hS
  have bl : l < st.heap.objs.size := Heap.lt_size hol
  refine set_update_ints ((Walks.list (by simp [hd]) _ l (Nat.ne_of_lt bl) its).toS) S (by simp; exact ⟨Nat.ne_of_lt bS, nSl⟩) ns len room (fun i v hv => ?_) (its.size - 0) 0 _ (by omega) (Nat.zero_le _)
    ⟨⟨_, Heap.get?_push_size _ rfl, rfl, rfl⟩, isl.push _⟩ ⟨0, Nat.le_refl 0, setR_new_at (Heap.get?_push_of_some _ hS)⟩ fun s' c mv hc hR => ?_
  · have hin : i < ns.length := by rw [← len]; exact (Array.getElem?_eq_some_iff.mp hv).1
    obtain ⟨t, e⟩ := IntsAre.int_at hi i v (by rw [Array.getElem?_toList]; exact hv)
    exact ⟨ns[i], t, List.getElem?_eq_getElem hin, by rw [e]; simp [hin]⟩
  · obtain ⟨h', g2, d2, tk, os2⟩ := s'
    obtain rfl : g2 = st.gens := mv.gens
    obtain rfl : d2 = st.drawn := mv.drawn
    obtain rfl : os2 = st.os := mv.os
    refine wpAny_pure (wpAny_pure (end_ h' tk c hR (by omega) fun b o nb e => ?_))
    exact mv.heap b o (by simp; exact ⟨nb, Nat.ne_of_lt (Heap.lt_size e)⟩) (Heap.get?_push_of_some _ e)
/-- set(xs), xs a list of ints -/
theorem setOfList {st : Shared} {l : Addr} {its : Array Value} {ns : List Int} {Q : Value → Shared → Prop} (hd : A.handled = none) (hl : st.heap.IsList l its) (hi : IntsAre its.toList ns) (room : ns.length + 1 < scanBound)
    (hq : ∀ (h' : Heap) (tk c : Nat), SetR w h' st.heap.objs.size (fun j => decide (j ∈ ns)) c → c ≤ ns.length → (∀ b o, st.heap.get? b = some o → h'.get? b = some o) → Q (.ref st.heap.objs.size) { st with heap := h', toks := tk }) :
    wpAny (model P w) A (call (.type "set") [.ref l]) Q E st := by
  obtain ⟨c0, r0, k1⟩ := F.called_set.mro
  have k2 := F.called_set.made; have k3 := F.called_set.sub; have k4 := F.called_set.notType; have k5 := F.called_set.canCreate; have k6 := F.typeCall_set_1 (.ref l)
  refine wpAny_call (codeAny_of_tree (show wpAny _ _ (callAny (.type "set") _) _ _ _ from wpAny_pure ⟨Code.quiet_builtin _ (by decide +kernel), codeAny_builtin F.entry_type_call ?_⟩))
  rw [Around.under_plain (weight_type_call_type "set" [.ref l] []) rfl]; (repeat (any_goals (first | assumption | wp_step)))
  refine codeAny_mono (code_set_led1 (.ref l) (E := E) (Q₁ := fun v s1 => v = .ref st.heap.objs.size ∧ s1 = { st with heap := st.heap.push (bareSet w) }) ⟨rfl, rfl⟩) fun r s1 hr => ?_
  cases r with
  | error e => exact hr
  | ok fl =>
    cases fl with
    | ret v =>
      obtain ⟨rfl, rfl⟩ := hr
      have new : (st.heap.push (bareSet w)).get? st.heap.objs.size = some (bareSet w) := Heap.get?_push_size _ rfl
      have ty : Shared.TypeIs { st with heap := st.heap.push (bareSet w) } (.ref st.heap.objs.size) "set" := ⟨_, new, rfl⟩
      have k7 := F.called_set.init.lookup; have k8 := F.called_set.init.bind (.ref st.heap.objs.size); (repeat (any_goals (first | assumption | wp_step)))
      refine codeAny_mono (fillSet (st := { st with heap := st.heap.push (bareSet w) }) (G := wants (fun r s2 => r = .none ∧ ∃ h' tk c, s2 = { st with heap := h', toks := tk } ∧ SetR w h' st.heap.objs.size (fun j => decide (j ∈ ns)) c ∧ c ≤ ns.length ∧ (∀ b o, st.heap.get? b = some o → h'.get? b = some o)) E)
        (by simp [hd]) new (hl.push _) hi room fun h' tk c R hc kk => ⟨rfl, h', tk, c, rfl, R, hc, fun b o e => kk b o (Nat.ne_of_lt (Heap.lt_size e)) (Heap.get?_push_of_some _ e)⟩) fun r2 s2 hr2 => ?_
      cases r2 with
      | error e => exact hr2
      | ok f2 =>
        cases f2 with
        | ret v2 => obtain ⟨rfl, h', tk, c, rfl, R, hc, kk⟩ := hr2; (repeat (any_goals (first | assumption | wp_step))); exact hq _ _ _ R hc kk
        | _ => exact hr2.elim
    | _ => exact hr.elim
end
theorem ints_vals : ∀ {ns : List Int} {us : List Value}, Vals (ns.map V.int) us → IntsAre us ns
  | [], _, r => by cases r; exact .nil
  | n :: ns, _, r => by
    cases r with
    | cons q t => obtain ⟨k, rfl⟩ := q; exact .cons _ _ (ints_vals t)
theorem nodup_le : ∀ (B : Nat) (l : List Int), l.Nodup → (∀ x ∈ l, 0 ≤ x ∧ x < B) → l.length ≤ B
  | 0, l, _, h => by
    cases l with
    | nil => simp
    | cons a l => have := h a List.mem_cons_self; omega
  | B + 1, l, hn, h => by
    have ih := nodup_le B (l.erase (B : Int)) (hn.erase _) fun x hx => by
      have h1 := h x (List.mem_of_mem_erase hx)
      have h2 : x ≠ (B : Int) := fun e => by rw [e] at hx; exact (hn.not_mem_erase hx)
      omega
    have := List.length_erase_le (a := (B : Int)) (l := l)
    have h3 : l.length ≤ (l.erase (B : Int)).length + 1 := by
      rw [List.length_erase]; split <;> omega
    omega
theorem setR_le {w : World} {h : Heap} {a : Addr} {S : Int → Bool} {n B : Nat} (R : SetR w h a S n) (hB : ∀ k, S k = true → 0 ≤ k ∧ k < B) : n ≤ B := by
  obtain ⟨o, es, ep, t, _, _, _, _, hnd, hm, _, _, hsz, _⟩ := R
  have := nodup_le B _ hnd fun x hx => hB x ((hm x).mpr hx)
  rw [List.length_map, Array.length_toList] at this
  omega
/-- set(xs) over the layer -/
def rSetOfL (K : PySem.W.Frag) (w : World) : List V → Hp → VK → Prop := fun xs H Q => ∃ (a : Addr) (ns : List Int), xs = [V.ref a] ∧ SqL K H a (ns.map V.int) ∧ ns.length ≤ 4000 ∧
  ∀ (p : Addr) (c : Nat), H p = none → c ≤ ns.length → (∀ B : Nat, (∀ j ∈ ns, 0 ≤ j ∧ j < B) → c ≤ B) → Q (.ref p) (upd H p (SetO w p (fun j => decide (j ∈ ns)) c))
theorem cr_setL {X : Cx} (hc : X.calm = true) : CallR X (.type "set") (rSetOfL X.K X.w) := by
  intro pins s σ H xs us Q I r hq
  obtain ⟨a, ns, rfl, hl, hn, q⟩ := hq
  rw [Vals.ref1 r]
  obtain ⟨its, rv, pl, hz⟩ := I.list hl
  refine setOfList (P := X.prog) (w := X.w) (I.ok.hd hc) pl.isList (by simpa using ints_vals rv) (Nat.lt_of_le_of_lt (show ns.length + 1 ≤ 4001 by omega) (by decide)) fun h' tk c R hc' kk => ?_
  exact ⟨.ref s.heap.objs.size, _, I.laid (t' := tk) kk (Nat.le_refl _) (setO_new R), rfl, q _ c (I.hok.fresh (Nat.le_refl _)) hc' fun B hB => setR_le R fun k hk => hB k (of_decide_eq_true hk)⟩
end LA

namespace LA
open PySem L2
/-! ### what is reached -/
def sucs (j : Jd) (s : Nat) : List Nat := (j[s]?.getD []).flatMap fun r => r.filterMap id
def Fr (j : Jd) : Nat → Nat → Prop
  | 0, t => t = 0
  | k + 1, t => Fr j k t ∨ ∃ s, Fr j k s ∧ t ∈ sucs j s
def Rch (j : Jd) (t : Nat) : Prop := ∃ k, Fr j k t
theorem Fr.mono {j : Jd} {t : Nat} : ∀ {k m : Nat}, k ≤ m → Fr j k t → Fr j m t
  | k, m, h, f => by
    induction m with
    | zero => have : k = 0 := by omega
              subst this; exact f
    | succ m ih =>
      by_cases e : k = m + 1
      · subst e; exact f
      · exact .inl (ih (by omega))
theorem Rch.step {j : Jd} {s t : Nat} (h : Rch j s) (ht : t ∈ sucs j s) : Rch j t := let ⟨k, f⟩ := h; ⟨k + 1, .inr ⟨s, f, ht⟩⟩
theorem mem_sucs {j : Jd} {s t : Nat} {sd : Sd} {r : Rw} (h1 : j[s]? = some sd) (h2 : r ∈ sd) (h3 : some t ∈ r) : t ∈ sucs j s := by
  unfold sucs
  rw [h1]
  simp only [Option.getD_some, List.mem_flatMap, List.mem_filterMap]
  exact ⟨r, h2, some t, h3, rfl⟩
theorem sucs_lt {j : Jd} {nx ny s t : Nat} (ij : IsJ j nx ny) (h : t ∈ sucs j s) : t < j.length := by
  unfold sucs at h
  cases e : j[s]? with
  | none => rw [e] at h; simp at h
  | some sd =>
    rw [e] at h
    simp only [Option.getD_some, List.mem_flatMap, List.mem_filterMap] at h
    obtain ⟨r, hr, o, ho, rfl⟩ := h
    exact ((ij.st sd (List.mem_of_getElem? e)).2 r hr).2 t ho
theorem Fr.lt {j : Jd} {nx ny : Nat} (ij : IsJ j nx ny) : ∀ {k t : Nat}, Fr j k t → t < j.length
  | 0, t, h => by have : t = 0 := h; subst this; exact ij.n1
  | k + 1, t, h => by
    rcases h with h | ⟨s, _, h⟩
    · exact Fr.lt ij h
    · exact sucs_lt ij h
/-- n rounds are enough -/
theorem Fr.all {j : Jd} {nx ny t : Nat} (ij : IsJ j nx ny) (h : Rch j t) : Fr j j.length t := by
  have dec : ∀ k t, Decidable (Fr j k t) := fun k t => Classical.propDecidable _
  let c : Nat → Nat := fun k => ((List.range j.length).filter fun t => @decide (Fr j k t) (dec k t)).length
  have hc : ∀ k, c k ≤ j.length := fun k => by
    have := List.length_filter_le (fun t => @decide (Fr j k t) (dec k t)) (List.range j.length)
    rw [List.length_range] at this; exact this
  have stable : ∀ k, (∀ t, Fr j (k + 1) t → Fr j k t) → ∀ m t, Fr j m t → Fr j k t := by
    intro k hk m
    induction m with
    | zero => intro t ht; exact Fr.mono (Nat.zero_le _) ht
    | succ m ih =>
      intro t ht
      rcases ht with ht | ⟨s, hs, ht⟩
      · exact ih t ht
      · exact hk t (.inr ⟨s, ih s hs, ht⟩)
  have grow : ∀ k, (¬ ∀ t, Fr j (k + 1) t → Fr j k t) → c k + 1 ≤ c (k + 1) := by
    intro k hk
    have ⟨t, ht⟩ := Classical.not_forall.mp hk
    have ⟨h1, h2⟩ := Classical.not_imp.mp ht
    have sub : ((List.range j.length).filter fun t => @decide (Fr j k t) (dec k t)) = ((List.range j.length).filter fun t => @decide (Fr j (k + 1) t) (dec (k + 1) t)).filter fun t => @decide (Fr j k t) (dec k t) := by
      rw [List.filter_filter]
      refine List.filter_congr fun x _ => ?_
      by_cases hx : Fr j k x
      · have hx2 : Fr j (k + 1) x := .inl hx
        simp [hx, hx2]
      · simp [hx]
    show ((List.range j.length).filter fun t => @decide (Fr j k t) (dec k t)).length + 1 ≤ _
    rw [sub]
    refine Nat.succ_le_of_lt ?_
    refine List.length_filter_lt_length_iff_exists.mpr ⟨t, ?_, by simp [h2]⟩
    simp only [List.mem_filter, List.mem_range]
    exact ⟨Fr.lt ij h1, by simp [h1]⟩
  have key : ∃ k, k ≤ j.length ∧ ∀ t, Fr j (k + 1) t → Fr j k t := by
    refine Classical.byContradiction fun hno => ?_
    have all : ∀ k, k ≤ j.length → k ≤ c k := by
      intro k
      induction k with
      | zero => intro _; exact Nat.zero_le _
      | succ k ih =>
        intro hk
        have := grow k fun z => hno ⟨k, by omega, z⟩
        have := ih (by omega)
        omega
    have h1 := all j.length (Nat.le_refl _)
    have h2 := grow j.length fun z => hno ⟨_, Nat.le_refl _, z⟩
    have h3 := hc (j.length + 1)
    omega
  obtain ⟨k, hk, hs⟩ := key
  obtain ⟨m, hm⟩ := h
  exact Fr.mono hk (stable k hs m t hm)
/-- two strictly ascending lists with the same members are one -/
theorem asc_eq : ∀ {l m : List Int}, l.Pairwise (· < ·) → m.Pairwise (· < ·) → (∀ x, x ∈ l ↔ x ∈ m) → l = m
  | [], [], _, _, _ => rfl
  | [], b :: m, _, _, h => absurd ((h b).mpr List.mem_cons_self) (by simp)
  | a :: l, [], _, _, h => absurd ((h a).mp List.mem_cons_self) (by simp)
  | a :: l, b :: m, hl, hm, h => by
    have hl' := List.pairwise_cons.mp hl
    have hm' := List.pairwise_cons.mp hm
    have e : a = b := by
      have h1 := (h a).mp List.mem_cons_self
      have h2 := (h b).mpr List.mem_cons_self
      rcases List.mem_cons.mp h1 with e | h1
      · exact e
      · rcases List.mem_cons.mp h2 with e | h2
        · exact e.symm
        · have := hl'.1 b h2; have := hm'.1 a h1; omega
    subst e
    congr 1
    refine asc_eq hl'.2 hm'.2 fun x => ⟨fun hx => ?_, fun hx => ?_⟩
    · rcases List.mem_cons.mp ((h x).mp (List.mem_cons_of_mem _ hx)) with e | q
      · subst e; have := hl'.1 x hx; omega
      · exact q
    · rcases List.mem_cons.mp ((h x).mpr (List.mem_cons_of_mem _ hx)) with e | q
      · subst e; have := hm'.1 x hx; omega
      · exact q
theorem asc_of {l : List Int} (h : l.Pairwise (· ≤ ·)) (n : l.Nodup) : l.Pairwise (· < ·) := by
  have n' : l.Pairwise (· ≠ ·) := n
  exact (h.and n').imp fun ⟨a, b⟩ => by omega
def nI (x : Nat) : Int := (x : Int)
theorem nV_eq : nV = V.int ∘ nI := rfl
structure Good (j : Jd) (rs : List Nat) : Prop where
  nd : rs.Nodup
  lt : ∀ t ∈ rs, t < j.length
  rc : ∀ t ∈ rs, Rch j t
  z : 0 ∈ rs
theorem Good.len {j : Jd} {rs : List Nat} (g : Good j rs) : rs.length ≤ j.length := by
  have := nodup_le j.length (rs.map nI) ?_ ?_
  · simpa using this
  · exact List.Pairwise.map _ (fun a b hab => by unfold nI; omega) g.nd
  · intro x hx
    simp only [List.mem_map] at hx
    obtain ⟨t, ht, rfl⟩ := hx
    have := g.lt t ht
    unfold nI; omega
theorem Good.snoc {j : Jd} {rs : List Nat} {t : Nat} (g : Good j rs) (h : t ∉ rs) (hl : t < j.length) (hr : Rch j t) : Good j (rs ++ [t]) := by
  refine ⟨?_, fun x hx => ?_, fun x hx => ?_, List.mem_append_left _ g.z⟩
  · rw [List.nodup_append]
    exact ⟨g.nd, by simp, fun a ha b hb => by simp at hb; subst hb; intro e; subst e; exact h ha⟩
  · rcases List.mem_append.mp hx with q | q
    · exact g.lt x q
    · simp at q; subst q; exact hl
  · rcases List.mem_append.mp hx with q | q
    · exact g.rc x q
    · simp at q; subst q; exact hr
theorem Good.closed {j : Jd} {rs : List Nat} (g : Good j rs) (h : ∀ s ∈ rs, ∀ t ∈ sucs j s, t ∈ rs) : ∀ t, Rch j t → t ∈ rs := by
  rintro t ⟨k, f⟩
  induction k generalizing t with
  | zero => have : t = 0 := f; subst this; exact g.z
  | succ k ih =>
    rcases f with f | ⟨s, f, q⟩
    · exact ih t f
    · exact h s (ih s f) t q
theorem inV_nat {t : Nat} {rs : List Nat} : inV (nV t) (rs.map nV) = decide (t ∈ rs) := by
  unfold inV
  induction rs with
  | nil => simp
  | cons a rs ih =>
    rw [List.map_cons, List.any_cons, ih]
    have e : eqV (nV a) (nV t) = decide (t = a) := by
      show ((a : Int) == (t : Int)) = _
      by_cases z : t = a
      · subst z; simp
      · rw [decide_eq_false z]; exact beq_eq_false_iff_ne.mpr (by omega)
    rw [e]
    simp
theorem flat_nats (rs : List Nat) : (rs.map nV).all flatV = true := by
  rw [List.all_eq_true]; intro x hx
  simp only [List.mem_map] at hx
  obtain ⟨t, _, rfl⟩ := hx; rfl
/-- the ascending list of what is reached -/
def spReached (K : PySem.W.Frag) : Sp := fun vs H Q _ => ∃ (v : V) (j : Jd) (nx ny : Nat), vs = [v] ∧ JAt K H v j ∧ IsJ j nx ny ∧
  ∀ (H' : Hp) (q : Addr) (ns : List Int), Same H H' → SqT K H' q (ns.map V.int) → ns.Pairwise (· < ·) → (∀ x, x ∈ ns ↔ 0 ≤ x ∧ Rch j x.toNat) → ns.length ≤ 8 → (∀ x ∈ ns, x < 8) → Q (.ref q) H'
end LA

namespace LA
open PySem L2
/-! ### how long a text of data may be -/
mutual
def szD : PyData → Nat
  | .none => 4
  | .bool _ => 5
  | .int i => i.natAbs.log2 + 2
  | .str x => (reprText x).length
  | .list xs => szAll xs + 3
  | .tuple xs => szAll xs + 3
  | .dict kvs => szKv kvs + 3
def szAll : List PyData → Nat
  | [] => 0
  | x :: xs => szD x + 2 + szAll xs
def szKv : List (PyData × PyData) → Nat
  | [] => 0
  | (k, v) :: r => szD k + szD v + 4 + szKv r
end
theorem textFrom_le : ∀ (ts : List Str) (k : Nat) (acc : Str), (textFrom k acc ts).length ≤ acc.length + piled ts
  | [], k, acc => by simp [textFrom, piled]
  | t :: ts, k, acc => by
    have ih := textFrom_le ts (k + 1) (acc ++ (if k > 0 then ", " else "" : String) ++ t)
    have e : ((acc ++ (if k > 0 then ", " else "" : String) ++ t : Str)).length ≤ acc.length + 2 + t.length := by
      rw [strLen_append, strLen_append]
      have : ((if k > 0 then ", " else "" : String) : Str).length ≤ 2 := by split <;> decide
      omega
    show (textFrom (k + 1) _ ts).length ≤ _
    rw [piled_cons]; omega
theorem join_le (ts : List Str) : (Str.join ", " ts).length ≤ piled ts := by
  by_cases h : ts = []
  · subst h; decide
  · have := join_length_add ts h; omega
theorem listText_le (ts : List Str) : (listText ts).length ≤ piled ts + 3 := by
  have h := textFrom_le ts 0 "["
  show (textFrom 0 "[" ts ++ "]").length ≤ _
  rw [strLen_append]
  have e1 : (("[" : String) : Str).length = 1 := rfl
  have e2 : (("]" : String) : Str).length = 1 := rfl
  omega
theorem tupleText_le (ts : List Str) : (tupleText ts).length ≤ piled ts + 3 := by
  unfold tupleText
  rw [strLen_append, strLen_append]
  have h := join_le ts
  have e1 : (("(" : String) : Str).length = 1 := rfl
  have e2 : ((if ts.length == 1 then ",)" else ")" : String) : Str).length ≤ 2 := by split <;> decide
  omega
theorem dictText_le (ts : List Str) : (dictText ts).length ≤ piled ts + 3 := by
  unfold dictText
  rw [strLen_append, strLen_append]
  have h := join_le ts
  have e1 : (("{" : String) : Str).length = 1 := rfl
  have e2 : (("}" : String) : Str).length = 1 := rfl
  omega
mutual
theorem shown_le : ∀ d : PyData, d.shown.length ≤ szD d
  | .none => by simp only [PyData.shown, szD]; decide
  | .bool b => by cases b <;> simp only [PyData.shown, szD] <;> decide
  | .int i => by
    simp only [PyData.shown, szD]
    have := int_text_length_le (a := i) (k := i.natAbs.log2 + 1) (by omega) (by omega)
    rw [ofString_length]; exact this
  | .str x => by simp only [PyData.shown, szD]; exact Nat.le_refl _
  | .list xs => by
    simp only [PyData.shown, szD]
    exact Nat.le_trans (listText_le _) (Nat.add_le_add_right (shownAll_le xs) 3)
  | .tuple xs => by
    simp only [PyData.shown, szD]
    exact Nat.le_trans (tupleText_le _) (Nat.add_le_add_right (shownAll_le xs) 3)
  | .dict kvs => by
    simp only [PyData.shown, szD]
    exact Nat.le_trans (dictText_le _) (Nat.add_le_add_right (shownKv_le kvs) 3)
theorem shownAll_le : ∀ xs : List PyData, piled (PyData.shownAll xs) ≤ szAll xs
  | [] => by simp [PyData.shownAll, szAll, piled]
  | x :: xs => by
    have h1 := shown_le x; have h2 := shownAll_le xs
    simp only [PyData.shownAll, szAll, piled_cons]; omega
theorem shownKv_le : ∀ kvs : List (PyData × PyData), piled (PyData.shownKv kvs) ≤ szKv kvs
  | [] => by simp [PyData.shownKv, szKv, piled]
  | (k, v) :: r => by
    have h1 := shown_le k; have h2 := shown_le v; have h3 := shownKv_le r
    simp only [PyData.shownKv, szKv, piled_cons, strLen_append]
    have e : ((": " : String) : Str).length = 2 := rfl
    omega
end
end LA
namespace LA
open PySem L2
/-! ### tuples of small ints as data -/
theorem ints_show : ∀ ns : List Int, (∀ x ∈ ns, x.natAbs < 2 ^ 64) → PyData.showableAll (ns.map PyData.int) = true ∧ PyData.hasDictAll (ns.map PyData.int) = false ∧ szAll (ns.map PyData.int) ≤ ns.length * 70
  | [], _ => by simp [PyData.showableAll, PyData.hasDictAll, szAll]
  | n :: ns, h => by
    have ih := ints_show ns fun x hx => h x (List.mem_cons_of_mem _ hx)
    have h1 : n.natAbs.log2 < 64 := PySem.Flt.log2_lt_of (by decide) (h n List.mem_cons_self)
    refine ⟨?_, ?_, ?_⟩
    · simp only [List.map_cons, PyData.showableAll, PyData.showable, ih.1, Bool.and_true, decide_eq_true_eq]; omega
    · simp only [List.map_cons, PyData.hasDictAll, PyData.hasDict, ih.2.1, Bool.or_self]
    · simp only [List.map_cons, szAll, szD, List.length_cons]
      have := ih.2.2; omega
/-- what repr asks of a tuple of ints -/
theorem tupI_show {ns : List Int} (h : ∀ x ∈ ns, x.natAbs < 2 ^ 64) (hl : ns.length ≤ 10000) : (PyData.tuple (ns.map PyData.int)).showable = true ∧ (PyData.tuple (ns.map PyData.int)).hasDict = false ∧ (PyData.tuple (ns.map PyData.int)).depth ≤ 64 ∧
    (PyData.tuple (ns.map PyData.int)).shown.length ≤ sizeLine := by
  obtain ⟨h1, h2, h3⟩ := ints_show ns h
  refine ⟨by simpa [PyData.showable] using h1, by simpa [PyData.hasDict] using h2, ?_, ?_⟩
  · have : ∀ ns : List Int, PyData.depthAll (ns.map PyData.int) = 0 := by
      intro ns; induction ns with
      | nil => simp [PyData.depthAll]
      | cons n ns ih => simp [PyData.depthAll, PyData.depth, ih]
    simp [PyData.depth, this]
  · refine Nat.le_trans (shown_le _) ?_
    have e : szD (PyData.tuple (ns.map PyData.int)) ≤ 700003 := by simp only [szD]; omega
    exact Nat.le_trans e (by decide)
theorem dpInts {K : PySem.W.Frag} {H : Hp} : ∀ ns : List Int, DpAll K H (ns.map V.int) (ns.map PyData.int)
  | [] => .nil
  | n :: ns => .cons (.int n) (dpInts ns)
theorem take_filt {rd : Rw} {c : Nat} {o : Option Nat} (h : rd[c]? = some o) : (rd.take (c + 1)).filterMap id = (rd.take c).filterMap id ++ o.toList := by
  rw [List.take_add_one, h]
  cases o <;> simp
end LA

namespace LA
open PySem PySem.Spec PyProof.Rows L2
/-- neither the pot nor one of Z -/
def Out (p : Addr) (Z : Addr → Prop) (a : Addr) : Prop := a ≠ p ∧ ¬ Z a
/-- all of Z are held -/
def Trk (Z : Addr → Prop) (H : Hp) : Prop := ∀ b, Z b → H b ≠ none
theorem Trk.same {Z : Addr → Prop} {H H' : Hp} (h : Trk Z H) (s : Same H H') : Trk Z H' := fun b hb e => by
  cases q : H b with
  | none => exact h b hb q
  | some o => rw [s b o q] at e; cases e
theorem Trk.x {Z : Addr → Prop} {H H' : Hp} {p : Addr} {n : Nat} (h : Trk Z H) (s : SameX p H H') (P : PotAt H' p n) : Trk Z H' := fun b hb e => by
  cases q : H b with
  | none => exact h b hb q
  | some o =>
    by_cases hp : b = p
    · obtain ⟨ys, hy⟩ := P.lst; rw [hp, hy] at e; cases e
    · rw [s b o q hp] at e; cases e
theorem outN {Z : Addr → Prop} {H : Hp} {p q : Addr} {n : Nat} (P : PotAt H p n) (h : Trk Z H) (hq : H q = none) : Out p Z q := ⟨P.ne hq, fun z => h q z hq⟩
/-! ### values of any kind: none, bools, ints, texts, lists, tuples, dicts without or with the key 0; none of their parts is the pot at p -/
mutual
inductive Dq (K : PySem.W.Frag) (p : Addr) (Z : Addr → Prop) (H : Hp) : V → PyData → Prop
  | non : Dq K p Z H .non .none
  | bl (b : Bool) : Dq K p Z H (.bl b) (.bool b)
  | int (i : Int) : Dq K p Z H (.int i) (.int i)
  | str (x : Str) : Dq K p Z H (.str x) (.str x)
  | lst {a : Addr} {xs : List V} {ds : List PyData} : Out p Z a → SqL K H a xs → DqAll K p Z H xs ds → Dq K p Z H (.ref a) (.list ds)
  | tup {a : Addr} {xs : List V} {ds : List PyData} : SqT K H a xs → DqAll K p Z H xs ds → Dq K p Z H (.ref a) (.tuple ds)
  | dic0 {a : Addr} : Out p Z a → H a = some (.dK []) → Dq K p Z H (.ref a) (.dict [])
  | dic1 {a : Addr} {v : V} {d : PyData} : Out p Z a → H a = some (.dK [(.inl 0, v)]) → Dq K p Z H v d → Dq K p Z H (.ref a) (.dict [(.int 0, d)])
inductive DqAll (K : PySem.W.Frag) (p : Addr) (Z : Addr → Prop) (H : Hp) : List V → List PyData → Prop
  | nil : DqAll K p Z H [] []
  | cons {v : V} {vs : List V} {d : PyData} {ds : List PyData} : Dq K p Z H v d → DqAll K p Z H vs ds → DqAll K p Z H (v :: vs) (d :: ds)
end
theorem SameX.sqL {K : PySem.W.Frag} {p a : Addr} {H H' : Hp} {xs : List V} (s : SameX p H H') (hn : a ≠ p) (h : SqL K H a xs) : SqL K H' a xs := by
  rcases h with (h | ⟨o, h⟩) | h
  · exact .inl (.inl (s _ _ h hn))
  · exact .inl (.inr ⟨o, s _ _ h hn⟩)
  · exact .inr h
section
variable {K : PySem.W.Frag} {p : Addr} {Z : Addr → Prop} {H H' : Hp}
mutual
theorem Dq.x (s : SameX p H H') (t : SameT H H') : ∀ (d : PyData) (v : V), Dq K p Z H v d → Dq K p Z H' v d
  | .none, _, h => by cases h; exact .non
  | .bool b, _, h => by cases h; exact .bl b
  | .int i, _, h => by cases h; exact .int i
  | .str x, _, h => by cases h; exact .str x
  | .list ds, _, h => by
    cases h with
    | lst hn hs ha => exact .lst hn (s.sqL hn.1 hs) (DqAll.x s t ds _ ha)
  | .tuple ds, _, h => by
    cases h with
    | tup hs ha => exact .tup (t.seq hs) (DqAll.x s t ds _ ha)
  | .dict kvs, _, h => by
    cases h with
    | dic0 hn e => exact .dic0 hn (s _ _ e hn.1)
    | dic1 hn e hd => exact .dic1 hn (s _ _ e hn.1) (Dq.x s t _ _ hd)
theorem DqAll.x (s : SameX p H H') (t : SameT H H') : ∀ (ds : List PyData) (vs : List V), DqAll K p Z H vs ds → DqAll K p Z H' vs ds
  | [], _, h => by cases h; exact .nil
  | d :: ds, _, h => by
    cases h with
    | cons h1 h2 => exact .cons (Dq.x s t d _ h1) (DqAll.x s t ds _ h2)
end
theorem Dq.mv {d : PyData} {v : V} {n : Nat} (h : Dq K p Z H v d) (P : PotAt H p n) (s : SameX p H H') : Dq K p Z H' v d := Dq.x s (P.t s) d v h
theorem DqAll.mv {ds : List PyData} {vs : List V} {n : Nat} (h : DqAll K p Z H vs ds) (P : PotAt H p n) (s : SameX p H H') : DqAll K p Z H' vs ds := DqAll.x s (P.t s) ds vs h
theorem Dq.same {d : PyData} {v : V} (h : Dq K p Z H v d) (s : Same H H') : Dq K p Z H' v d := Dq.x s.x (Same.t s) d v h
theorem DqAll.same {ds : List PyData} {vs : List V} (h : DqAll K p Z H vs ds) (s : Same H H') : DqAll K p Z H' vs ds := DqAll.x s.x (Same.t s) ds vs h
theorem DqAll.len : ∀ {ds : List PyData} {vs : List V}, DqAll K p Z H vs ds → vs.length = ds.length
  | [], _, h => by cases h; rfl
  | d :: ds, _, h => by
    cases h with
    | cons h1 h2 => simp [DqAll.len h2]
theorem DqAll.get : ∀ {ds : List PyData} {vs : List V} {i : Nat} {v : V}, DqAll K p Z H vs ds → vs[i]? = some v → ∃ d, ds[i]? = some d ∧ Dq K p Z H v d
  | [], _, i, v, h, e => by cases h; simp at e
  | d :: ds, _, 0, v, h, e => by
    cases h with
    | cons h1 h2 => simp at e; subst e; exact ⟨d, rfl, h1⟩
  | d :: ds, _, i + 1, v, h, e => by
    cases h with
    | cons h1 h2 =>
      obtain ⟨d', e1, e2⟩ := DqAll.get (i := i) h2 (by simpa using e)
      exact ⟨d', by simpa using e1, e2⟩
theorem DqAll.app : ∀ {ds es : List PyData} {vs us : List V}, DqAll K p Z H vs ds → DqAll K p Z H us es → DqAll K p Z H (vs ++ us) (ds ++ es)
  | [], _, _, _, h, k => by cases h; exact k
  | d :: ds, _, _, _, h, k => by
    cases h with
    | cons h1 h2 => exact .cons h1 (DqAll.app h2 k)
theorem DqAll.take : ∀ {ds : List PyData} {vs : List V} (n : Nat), DqAll K p Z H vs ds → DqAll K p Z H (vs.take n) (ds.take n)
  | _, _, 0, _ => by simpa using DqAll.nil
  | [], _, n + 1, h => by cases h; exact .nil
  | d :: ds, _, n + 1, h => by
    cases h with
    | cons h1 h2 => exact .cons h1 (DqAll.take n h2)
theorem DqAll.drop : ∀ {ds : List PyData} {vs : List V} (n : Nat), DqAll K p Z H vs ds → DqAll K p Z H (vs.drop n) (ds.drop n)
  | _, _, 0, h => h
  | [], _, n + 1, h => by cases h; exact .nil
  | d :: ds, _, n + 1, h => by
    cases h with
    | cons h1 h2 => exact DqAll.drop n h2
theorem DqAll.rev : ∀ {ds : List PyData} {vs : List V}, DqAll K p Z H vs ds → DqAll K p Z H vs.reverse ds.reverse
  | [], _, h => by cases h; exact .nil
  | d :: ds, _, h => by
    cases h with
    | cons h1 h2 => rw [List.reverse_cons, List.reverse_cons]; exact DqAll.app (DqAll.rev h2) (.cons h1 .nil)
end
section
variable {K : PySem.W.Frag} {p D : Addr} {Z Z' : Addr → Prop} {H : Hp}
mutual
theorem Dq.weak (f : ∀ a, Z' a → Z a) : ∀ (d : PyData) (v : V), Dq K p Z H v d → Dq K p Z' H v d
  | .none, _, h => by cases h; exact .non
  | .bool b, _, h => by cases h; exact .bl b
  | .int i, _, h => by cases h; exact .int i
  | .str x, _, h => by cases h; exact .str x
  | .list ds, _, h => by
    cases h with
    | lst hn hs ha => exact .lst ⟨hn.1, fun z => hn.2 (f _ z)⟩ hs (DqAll.weak f ds _ ha)
  | .tuple ds, _, h => by
    cases h with
    | tup hs ha => exact .tup hs (DqAll.weak f ds _ ha)
  | .dict kvs, _, h => by
    cases h with
    | dic0 hn e => exact .dic0 ⟨hn.1, fun z => hn.2 (f _ z)⟩ e
    | dic1 hn e hd => exact .dic1 ⟨hn.1, fun z => hn.2 (f _ z)⟩ e (Dq.weak f _ _ hd)
theorem DqAll.weak (f : ∀ a, Z' a → Z a) : ∀ (ds : List PyData) (vs : List V), DqAll K p Z H vs ds → DqAll K p Z' H vs ds
  | [], _, h => by cases h; exact .nil
  | d :: ds, _, h => by
    cases h with
    | cons h1 h2 => exact .cons (Dq.weak f d _ h1) (DqAll.weak f ds _ h2)
end
theorem sqL_own {a : Addr} {xs : List V} {o : HO} (hn : a ≠ D) (h : SqL K H a xs) : SqL K (upd H D o) a xs := SameX.sqL (SameX.at (SameX.refl D H)) hn h
mutual
/-- the list at D, one of Z, is changed -/
theorem Dq.own {ys zs : List V} (hD : H D = some (.lst ys)) (z : Z D) : ∀ (d : PyData) (v : V), Dq K p Z H v d → Dq K p Z (upd H D (.lst zs)) v d
  | .none, _, h => by cases h; exact .non
  | .bool b, _, h => by cases h; exact .bl b
  | .int i, _, h => by cases h; exact .int i
  | .str x, _, h => by cases h; exact .str x
  | .list ds, _, h => by
    cases h with
    | lst hn hs ha => exact .lst hn (sqL_own (fun e => hn.2 (e ▸ z)) hs) (DqAll.own hD z ds _ ha)
  | .tuple ds, _, h => by
    cases h with
    | tup hs ha => exact .tup ((SameT.lst hD).seq hs) (DqAll.own hD z ds _ ha)
  | .dict kvs, _, h => by
    cases h with
    | @dic0 a hn e =>
      have ne : a ≠ D := fun q => hn.2 (q ▸ z)
      exact .dic0 hn ((upd_ne ne).trans e)
    | @dic1 a _ _ hn e hd =>
      have ne : a ≠ D := fun q => hn.2 (q ▸ z)
      exact .dic1 hn ((upd_ne ne).trans e) (Dq.own hD z _ _ hd)
theorem DqAll.own {ys zs : List V} (hD : H D = some (.lst ys)) (z : Z D) : ∀ (ds : List PyData) (vs : List V), DqAll K p Z H vs ds → DqAll K p Z (upd H D (.lst zs)) vs ds
  | [], _, h => by cases h; exact .nil
  | d :: ds, _, h => by
    cases h with
    | cons h1 h2 => exact .cons (Dq.own hD z d _ h1) (DqAll.own hD z ds _ h2)
end
end
def noZ : Addr → Prop := fun _ => False
theorem trk0 {H : Hp} : Trk noZ H := fun _ h => h.elim
/-- the name of a value's type -/
def tyN : PyData → String
  | .none => "NoneType" | .bool _ => "bool" | .int _ => "int" | .str _ => "str" | .list _ => "list" | .tuple _ => "tuple" | .dict _ => "dict"
theorem Dq.ty {K : PySem.W.Frag} {p : Addr} {Z : Addr → Prop} {H : Hp} {v : V} {d : PyData} (h : Dq K p Z H v d) : TyX K H v (.type (tyN d)) := by
  cases h with
  | non => exact .base .non
  | bl b => exact .base (.bl b)
  | int i => exact .base (.int i)
  | str x => exact .base (.str x)
  | lst hn hs ha =>
    rcases hs with (e | ⟨o, e⟩) | ⟨o, its, n, e, c, _⟩
    · exact .base (.lst e)
    · exact .base (.frz e)
    · exact .kList e c
  | tup hs ha =>
    rcases hs with (e | ⟨o, e⟩) | ⟨o, its, n, e, c, _⟩
    · exact .base (.tup e)
    · exact .fTuple e
    · exact .kTuple e c
  | dic0 hn e => exact .base (.dK e)
  | dic1 hn e _ => exact .base (.dK e)
def isTup : PyData → Bool
  | .tuple _ => true
  | _ => false
def isInt : PyData → Bool
  | .int _ => true
  | .bool _ => true
  | _ => false
def isBool : PyData → Bool
  | .bool _ => true
  | _ => false
theorem kit_tup (d : PyData) : kitB (tyN d) "tuple" = some (isTup d) := by cases d <;> simp only [tyN, isTup] <;> decide +kernel
theorem kit_int (d : PyData) : kitB (tyN d) "int" = some (isInt d) := by cases d <;> simp only [tyN, isInt] <;> decide +kernel
theorem kit_bool (d : PyData) : kitB (tyN d) "bool" = some (isBool d) := by cases d <;> simp only [tyN, isBool] <;> decide +kernel
section
variable {X : Cx} {K : PySem.W.Frag}
/-- isinstance, as one word -/
structure IsQ (K : PySem.W.Frag) (xs : List V) (H : Hp) (Q : VK) : Prop where
  go : rIsi K xs H Q
theorem isQK (K : PySem.W.Frag) (h : X.K = K := by rfl) : CallR X (.builtin "isinstance") (IsQ K) := by
  subst h
  exact fun pins s σ H xs us Q I r h => call_isi pins s σ H xs us Q I r h.go
theorem isiOne {p : Addr} {Z : Addr → Prop} {H : Hp} {v : V} {d : PyData} {n : String} {b : Bool} {Q : VK} (h : Dq K p Z H v d) (hk : kitB (tyN d) n = some b) (q : Q (.bl b) H) : IsQ K [v, .ty n] H Q :=
  ⟨v, .ty n, .type (tyN d), .type n, b, rfl, .ty n, h.ty, kit_ty hk, q⟩
theorem repTK (K : PySem.W.Frag) (h : X.K = K := by rfl) : OpR X (binaryOp .Mult) (rRepT K) := by subst h; exact op_repT
end
end LA

namespace LA
open PySem PySem.Spec PyProof.Rows L2
/-! ### repr of values of any kind -/
section
variable {X : Cx} {pins : List (Addr × Obj)} {σ : L2.St} {H : Hp} {s : Shared} {p : Addr} {Z : Addr → Prop}
/-- the object of a dict whose one key is 0 -/
theorem dic1_at (I : Inv X pins σ H s) {a : Addr} {v : V} (e : H a = some (.dK [(.inl 0, v)])) : (a == sysModules) = false ∧ ∃ (o : Obj) (es : Array DictEntry) (n : Nat) (en : DictEntry) (t : Tok),
    s.heap.get? a = some o ∧ o.cls = .type "dict" ∧ o.data = .dict es n ∧ es.toList = [en] ∧ en.key = .int 0 t ∧ RelV v en.val := by
  obtain ⟨_, hs, vs, kv, o, es, n, ho, hx, hd, _, hp, _⟩ := I.hok a _ e
  generalize hl : es.toList = l at hp
  match vs, kv, hp with
  | [q], .cons r .nil, hp =>
    match l, hp with
    | [en], .cons k1 k2 .nil =>
      have r3 : Sum.inl 0 = q.1 := r.1
      rcases keyIs_shape (show keyIs q.1 en.key = true from k1) with ⟨i, t, e1, e2⟩ | ⟨x, t, e1, e2⟩
      · rw [← r3] at e1
        cases e1
        exact ⟨hs, o, es, n, en, t, ho, hx.1, hd, hl, e2, by rw [k2]; exact r.2⟩
      · rw [← r3] at e1
        cases e1
theorem dic0_at (I : Inv X pins σ H s) {a : Addr} (e : H a = some (.dK [])) : (a == sysModules) = false ∧ ∃ (o : Obj) (es : Array DictEntry) (n : Nat),
    s.heap.get? a = some o ∧ o.cls = .type "dict" ∧ o.data = .dict es n ∧ es.toList = [] := by
  obtain ⟨_, hs, vs, kv, o, es, n, ho, hx, hd, _, hp, _⟩ := I.hok a _ e
  cases kv
  generalize hl : es.toList = l at hp
  cases hp
  exact ⟨hs, o, es, n, ho, hx.1, hd, hl⟩
mutual
theorem Dq.reads (I : Inv X pins σ H s) : ∀ (d : PyData) (v : V) (u : Value), Dq X.K p Z H v d → RelV v u → ∃ bs, Reads s.heap u d bs
  | .none, v, u, h, r => by
    cases h
    obtain rfl : u = Value.none := r
    exact ⟨[], .none⟩
  | .bool b, v, u, h, r => by
    cases h
    obtain rfl : u = Value.bool b := r
    exact ⟨[], .bool b⟩
  | .int i, v, u, h, r => by
    cases h
    obtain ⟨t, e⟩ : ∃ t, u = Value.int i t := r
    subst e; exact ⟨[], .int i t⟩
  | .str x, v, u, h, r => by
    cases h
    obtain ⟨t, e⟩ : ∃ t, u = Value.str x t := r
    subst e; exact ⟨[], .str x t⟩
  | .list ds, v, u, h, r => by
    cases h with
    | @lst a xs _ _ hs ha =>
      obtain rfl : u = Value.ref a := r
      obtain ⟨its, rv, ⟨o, n, g1, g2, _, g3⟩, _⟩ := I.list hs
      obtain ⟨bs, q⟩ := DqAll.reads I ds xs its ha rv
      exact ⟨a :: bs, .list g1 g2 g3 q⟩
  | .tuple ds, v, u, h, r => by
    cases h with
    | @tup a xs _ hs ha =>
      obtain rfl : u = Value.ref a := r
      obtain ⟨its, rv, ⟨o, g1, g2, n, g3⟩, _⟩ := I.tuple hs
      obtain ⟨bs, q⟩ := DqAll.reads I ds xs its ha rv
      exact ⟨bs, .tuple g1 g2 g3 q⟩
  | .dict kvs, v, u, h, r => by
    cases h with
    | @dic0 a _ e =>
      obtain rfl : u = Value.ref a := r
      obtain ⟨_, o, es, n, g1, g2, g3, g4⟩ := dic0_at I e
      exact ⟨_, .dict g1 g2 g3 (as := []) (bs := []) (by rw [g4]; exact .nil) (by rw [g4]; exact .nil)⟩
    | @dic1 a y d _ e hd =>
      obtain rfl : u = Value.ref a := r
      obtain ⟨_, o, es, n, en, t, g1, g2, g3, g4, g5, g6⟩ := dic1_at I e
      obtain ⟨bs, q⟩ := Dq.reads I d y en.val hd g6
      exact ⟨_, .dict g1 g2 g3 (as := [] ++ []) (bs := bs ++ []) (by rw [g4]; exact .cons (by show Reads s.heap en.key (.int 0) []; rw [g5]; exact .int 0 t) .nil) (by rw [g4]; exact .cons q .nil)⟩
theorem DqAll.reads (I : Inv X pins σ H s) : ∀ (ds : List PyData) (vs : List V) (us : List Value), DqAll X.K p Z H vs ds → Vals vs us → ∃ bs, ReadsAll s.heap us ds bs
  | [], vs, us, h, r => by
    cases h
    cases r
    exact ⟨[], .nil⟩
  | d :: ds, vs, us, h, r => by
    cases h with
    | cons h1 h2 =>
      cases r with
      | cons r1 r2 =>
        obtain ⟨b1, q1⟩ := Dq.reads I d _ _ h1 r1
        obtain ⟨b2, q2⟩ := DqAll.reads I ds _ _ h2 r2
        exact ⟨b1 ++ b2, .cons q1 q2⟩
end
/-- a value tells itself: within other values, and by itself -/
def Tells (P : Program) (w : World) (h : Heap) (u : Value) (d : PyData) : Prop :=
  ∃ bs, ReadAtMost h d.depth bs ∧ ReprK P w bs h d.depth u d.shown ∧ ∀ a, u = .ref a → ∃ T idr, ShowsBy P w h a d T idr
def TellsAll (P : Program) (w : World) (h : Heap) (us : List Value) (ds : List PyData) : Prop :=
  ∃ bs, ReadAtMost h (PyData.depthAll ds) bs ∧ ReprAllK P w bs h (PyData.depthAll ds) us (PyData.shownAll ds)
theorem szAll_mem : ∀ {ds : List PyData} {d : PyData}, d ∈ ds → szD d ≤ szAll ds
  | a :: ds, d, h => by
    simp only [szAll]
    rcases List.mem_cons.mp h with rfl | h
    · omega
    · have := szAll_mem h; omega
mutual
theorem Dq.tells (I : Inv X pins σ H s) : ∀ (d : PyData) (v : V) (u : Value), Dq X.K p Z H v d → RelV v u → d.showable = true → szD d ≤ sizeLine → Tells X.prog X.w s.heap u d
  | .none, v, u, h, r, hw, hz => by
    cases h
    obtain rfl : u = Value.none := r
    exact ⟨[], nofun, by simp only [PyData.shown]; exact .of_is ReprIs.none _ _ _, nofun⟩
  | .bool b, v, u, h, r, hw, hz => by
    cases h
    obtain rfl : u = Value.bool b := r
    exact ⟨[], nofun, by simp only [PyData.shown]; exact .of_is (ReprIs.bool b) _ _ _, nofun⟩
  | .int i, v, u, h, r, hw, hz => by
    cases h
    obtain ⟨t, e⟩ : ∃ t, u = Value.int i t := r
    subst e
    have hw' : i.natAbs.log2 < 1920 := by simpa [PyData.showable] using hw
    exact ⟨[], nofun, by simp only [PyData.shown]; exact .of_is (ReprIs.int t hw') _ _ _, nofun⟩
  | .str x, v, u, h, r, hw, hz => by
    cases h
    obtain ⟨t, e⟩ : ∃ t, u = Value.str x t := r
    subst e
    have hz' : (reprText x).length ≤ sizeLine := by simpa [szD] using hz
    exact ⟨[], nofun, by simp only [PyData.shown]; exact .of_is (ReprIs.str x t hz') _ _ _, nofun⟩
  | .list ds, v, u, h, r, hw, hz => by
    have hsh : (listText (PyData.shownAll ds)).length ≤ sizeLine := by have := shown_le (.list ds); simp only [PyData.shown] at this; omega
    obtain ⟨rb, hrd⟩ := Dq.reads I _ v u h r
    cases h with
    | @lst a xs _ _ hs ha =>
      obtain rfl : u = Value.ref a := r
      obtain ⟨its, rv, ⟨o, n, g1, g2, _, g3⟩, _⟩ := I.list hs
      obtain ⟨bs, q1, q2⟩ := DqAll.tells I ds xs its ha rv (by simpa [PyData.showable] using hw) (by simp only [szD] at hz; omega)
      have dd : PyData.depthAll ds < (PyData.list ds).depth := by simp only [PyData.depth]; omega
      have out : a ∉ bs := not_mem_of_deeper hrd dd q1
      refine ⟨a :: bs, q1.cons hrd (Nat.le_of_lt dd), ?_, fun b eb => ?_⟩
      · simp only [PyData.depth, PyData.shown]
        cases its with
        | nil =>
          have e0 : PyData.shownAll ds = [] := List.eq_nil_of_length_eq_zero (by simpa using q2.length_eq)
          rw [e0, listText_nil]
          exact .listEmpty g1 g2 g3
        | cons i1 i2 => exact .list g1 g2 g3 out (by simpa using q2.length_eq) fun j y ey => q2.item j y (by simpa using ey)
      · cases eb
        refine ⟨"list", "list.__repr__", F.slot_list_repr.toG, F.slot_list_str, F.slot_list_format, fun s' k0 => ⟨o, k0 _ _ g1, g2⟩, fun A E s' Q hg hu k0 hQ => ?_⟩
        simp only [PyData.depth] at hu
        simp only [PyData.shown] at hQ
        cases its with
        | nil =>
          have e0 : PyData.shownAll ds = [] := List.eq_nil_of_length_eq_zero (by simpa using q2.length_eq)
          rw [e0, listText_nil] at hQ
          exact call_list_repr_empty ⟨o, k0 _ _ g1, g2⟩ (k0 _ _ g1) g3 (hQ s'.heap _ _ fun _ _ z => z)
        | cons i1 i2 => exact call_list_reprK g1 g2 g3 out (by simpa using q2.length_eq) (fun j y ey => q2.item j y (by simpa using ey)) hg (fun c _ => Clear.nil c) hu k0 hQ hsh
  | .tuple ds, v, u, h, r, hw, hz => by
    have hsh : (tupleText (PyData.shownAll ds)).length ≤ sizeLine := by have := shown_le (.tuple ds); simp only [PyData.shown] at this; omega
    obtain ⟨rb, hrd⟩ := Dq.reads I _ v u h r
    cases h with
    | @tup a xs _ hs ha =>
      obtain rfl : u = Value.ref a := r
      obtain ⟨its, rv, ⟨o, g1, g2, n, g3⟩, _⟩ := I.tuple hs
      obtain ⟨bs, q1, q2⟩ := DqAll.tells I ds xs its ha rv (by simpa [PyData.showable] using hw) (by simp only [szD] at hz; omega)
      have dd : PyData.depthAll ds < (PyData.tuple ds).depth := by simp only [PyData.depth]; omega
      have out : a ∉ bs := not_mem_of_deeper hrd dd q1
      refine ⟨a :: bs, q1.cons hrd (Nat.le_of_lt dd), by simp only [PyData.depth, PyData.shown]; exact .tuple g1 g2 g3 out q2, fun b eb => ?_⟩
      cases eb
      refine ⟨"tuple", "tuple.__repr__", F.slot_tuple_repr, F.slot_tuple_str, F.slot_tuple_format, fun s' k0 => ⟨o, k0 _ _ g1, g2⟩, fun A E s' Q hg hu k0 hQ => ?_⟩
      simp only [PyData.depth] at hu
      simp only [PyData.shown] at hQ
      exact call_tuple_reprK g1 g2 g3 out q2 hg (fun c _ => Clear.nil c) hu k0 hQ hsh
  | .dict kvs, v, u, h, r, hw, hz => by
    have hsh : (dictText (PyData.shownKv kvs)).length ≤ sizeLine := by have := shown_le (.dict kvs); simp only [PyData.shown] at this; omega
    obtain ⟨rb, hrd⟩ := Dq.reads I _ v u h r
    have fin : ∀ (a : Addr) (o : Obj) (es : Array DictEntry) (n : Nat) (bs : List Addr), u = .ref a → s.heap.get? a = some o → o.cls = .type "dict" → o.data = .dict es n → (a == sysModules) = false → ReadAtMost s.heap (PyData.depthKv kvs) bs →
        ReprEntriesK X.prog X.w bs s.heap (PyData.depthKv kvs) es.toList (PyData.shownKv kvs) → Tells X.prog X.w s.heap u (.dict kvs) := by
      intro a o es n bs eu g1 g2 g3 hsys q1 q2
      subst eu
      have dd : PyData.depthKv kvs < (PyData.dict kvs).depth := by simp only [PyData.depth]; omega
      have out : a ∉ bs := not_mem_of_deeper hrd dd q1
      refine ⟨a :: bs, q1.cons hrd (Nat.le_of_lt dd), by simp only [PyData.depth, PyData.shown]; exact .dict g1 g2 g3 hsys out q2, fun b eb => ?_⟩
      cases eb
      refine ⟨"dict", "dict.__repr__", F.slot_dict_repr, F.slot_dict_str, F.slot_dict_format, fun s' k0 => ⟨o, k0 _ _ g1, g2⟩, fun A E s' Q hg hu k0 hQ => ?_⟩
      simp only [PyData.depth] at hu
      simp only [PyData.shown] at hQ
      exact call_dict_reprK g1 g2 g3 hsys out q2 hg (fun c _ => Clear.nil c) hu k0 hQ hsh
    cases h with
    | @dic0 a _ e =>
      obtain ⟨hsys, o, es, n, g1, g2, g3, g4⟩ := dic0_at I e
      exact fin a o es n [] r g1 g2 g3 hsys nofun (by rw [g4]; simp only [PyData.shownKv]; exact .nil)
    | @dic1 a y d _ e hd =>
      obtain ⟨hsys, o, es, n, en, t, g1, g2, g3, g4, g5, g6⟩ := dic1_at I e
      have hw' : d.showable = true := by simpa [PyData.showable, PyData.showableKv] using hw
      obtain ⟨bs, q1, q2, _⟩ := Dq.tells I d y en.val hd g6 hw' (by simp only [szD, szKv] at hz; omega)
      have le : d.depth ≤ PyData.depthKv [(.int 0, d)] := by simp only [PyData.depthKv]; omega
      refine fin a o es n bs r g1 g2 g3 hsys (q1.mono le) ?_
      rw [g4]
      simp only [PyData.shownKv]
      refine .cons ?_ (q2.level_le le) .nil
      rw [g5]
      simp only [PyData.shown]
      exact .of_is (ReprIs.int t (by decide)) _ _ _
theorem DqAll.tells (I : Inv X pins σ H s) : ∀ (ds : List PyData) (vs : List V) (us : List Value), DqAll X.K p Z H vs ds → Vals vs us → PyData.showableAll ds = true → szAll ds ≤ sizeLine → TellsAll X.prog X.w s.heap us ds
  | [], vs, us, h, r, hw, hz => by
    cases h
    cases r
    exact ⟨[], nofun, by simp only [PyData.shownAll]; exact .nil⟩
  | d :: ds, vs, us, h, r, hw, hz => by
    cases h with
    | cons h1 h2 =>
      cases r with
      | cons r1 r2 =>
        have hw' : d.showable = true ∧ PyData.showableAll ds = true := by simpa [PyData.showableAll] using hw
        obtain ⟨b1, m1, k1, _⟩ := Dq.tells I d _ _ h1 r1 hw'.1 (by simp only [szAll] at hz; omega)
        obtain ⟨b2, m2, k2⟩ := DqAll.tells I ds _ _ h2 r2 hw'.2 (by simp only [szAll] at hz; omega)
        refine ⟨b1 ++ b2, ?_, ?_⟩
        · simp only [PyData.depthAll]
          exact (m1.mono (Nat.le_max_left _ _)).append (m2.mono (Nat.le_max_right _ _))
        · simp only [PyData.depthAll, PyData.shownAll]
          exact .cons ((k1.more fun c hc => List.mem_append_left _ hc).level_le (Nat.le_max_left _ _)) (k2.more_le (fun c hc => List.mem_append_right _ hc) (Nat.le_max_right _ _))
end
/-- repr of any value -/
def rRepr (K : PySem.W.Frag) : List V → Hp → VK → Prop := fun xs H Q => ∃ (p : Addr) (Z : Addr → Prop) (y : V) (d : PyData), xs = [y] ∧ Dq K p Z H y d ∧ d.showable = true ∧ d.depth ≤ 64 ∧ szD d ≤ sizeLine ∧ Q (.str d.shown) H
theorem call_reprQ {k : Nat} (K : PySem.W.Frag) (hgd : X.A.guards = some []) (hr : Room k X.A) (h : X.K = K := by rfl) : CallR X (.builtin "repr") (rRepr K) := by
  subst h
  intro pins s σ H xs us Q I rx hq
  obtain ⟨p, Z, y, d, rfl, hd, hw, hdp, hz, q⟩ := hq
  have hsl : d.shown.length ≤ sizeLine := Nat.le_trans (shown_le d) hz
  cases rx with
  | cons r1 r2 =>
    cases r2
    obtain ⟨bs, m1, k1, sh⟩ := Dq.tells I d y _ hd r1 hw hz
    have hu := hr.un
    cases hd with
    | non =>
      cases r1
      simp only [PyData.shown] at q
      exact PySem.P.repr_of_none ⟨.str _, H, I.tok _, ⟨_, rfl⟩, q⟩
    | bl b =>
      cases r1
      simp only [PyData.shown] at q
      exact PySem.P.repr_of_bool ⟨.str _, H, I.tok _, ⟨_, rfl⟩, q⟩
    | int i =>
      obtain ⟨t, rfl⟩ := r1
      simp only [PyData.shown] at q
      exact PySem.P.repr_of_int (by simpa [PyData.showable] using hw) ⟨.str _, H, I.tok _, ⟨_, rfl⟩, q⟩
    | str x =>
      obtain ⟨t, rfl⟩ := r1
      simp only [PyData.shown] at q hsl
      exact PySem.P.repr_of_str ⟨.str _, H, I.tok _, ⟨_, rfl⟩, q⟩ hsl
    | lst =>
      cases r1
      obtain ⟨T, idr, S⟩ := sh _ rfl
      exact call_repr_slot (by omega) (S.typeIs s fun _ _ z => z) S.slotRepr (S.call X.A.in1 _ s _ hgd (by show X.A.units + 1 + _ < cLine; omega) (fun _ _ z => z) fun h' t tk hk => ⟨_, _, rfl, .str _, H, I.kept hk, ⟨t, rfl⟩, q⟩)
    | tup =>
      cases r1
      obtain ⟨T, idr, S⟩ := sh _ rfl
      exact call_repr_slot (by omega) (S.typeIs s fun _ _ z => z) S.slotRepr (S.call X.A.in1 _ s _ hgd (by show X.A.units + 1 + _ < cLine; omega) (fun _ _ z => z) fun h' t tk hk => ⟨_, _, rfl, .str _, H, I.kept hk, ⟨t, rfl⟩, q⟩)
    | dic0 =>
      cases r1
      obtain ⟨T, idr, S⟩ := sh _ rfl
      exact call_repr_slot (by omega) (S.typeIs s fun _ _ z => z) S.slotRepr (S.call X.A.in1 _ s _ hgd (by show X.A.units + 1 + _ < cLine; omega) (fun _ _ z => z) fun h' t tk hk => ⟨_, _, rfl, .str _, H, I.kept hk, ⟨t, rfl⟩, q⟩)
    | dic1 =>
      cases r1
      obtain ⟨T, idr, S⟩ := sh _ rfl
      exact call_repr_slot (by omega) (S.typeIs s fun _ _ z => z) S.slotRepr (S.call X.A.in1 _ s _ hgd (by show X.A.units + 1 + _ < cLine; omega) (fun _ _ z => z) fun h' t tk hk => ⟨_, _, rfl, .str _, H, I.kept hk, ⟨t, rfl⟩, q⟩)
end
end LA

namespace LA
open PySem PySem.Spec PyProof.Rows L2
/-! ### rules for values of any kind -/
section
variable {X : Cx}
/-- t != (), whatever t holds -/
def rNe0 (K : PySem.W.Frag) : R2 := fun x y H Q => ∃ (a b : Addr) (xs : List V), x = .ref a ∧ y = .ref b ∧ SqT K H a xs ∧ SqT K H b [] ∧ Q (.bl (!xs.isEmpty)) H
theorem op_ne0 (K : PySem.W.Frag) (hu : X.A.units + 64 < cLine) (h : X.K = K := by rfl) : OpR X (compareOp .NotEq) (rNe0 K) := by
  subst h
  intro pins s σ H x y v u Q I rx ry hq
  obtain ⟨a, b, xs, rfl, rfl, ha, hb, q⟩ := hq
  obtain rfl : v = Value.ref a := rx
  obtain rfl : u = Value.ref b := ry
  obtain ⟨its, rv, ⟨o, g1, g2, n, g3⟩, _⟩ := I.tuple ha
  obtain ⟨jts, rw', ⟨o', k1, k2, n', k3⟩, _⟩ := I.tuple hb
  cases rw'
  refine PySem.EqBoolInt.of_rcne (SeqAt.RcNeAt.tuples (e := fun _ => true) ⟨o, g1, g2, n, g3⟩ ⟨o', k1, k2, n', k3⟩ (by omega) fun j h1 h2 => absurd h2 (by simp)) ⟨.bl (!xs.isEmpty), H, I, ?_, q⟩
  show Value.bool _ = Value.bool _
  have hl := rv.length
  cases its with
  | nil => cases xs with
    | nil => rfl
    | cons => simp at hl
  | cons => cases xs with
    | nil => simp at hl
    | cons => simp
/-- an int, or a bool for one -/
def NumV : V → Int → Prop
  | .int i, j => i = j
  | .bl b, j => (if b = true then (1 : Int) else 0) = j
  | _, _ => False
def rNum (f : Int → Int → Int) : R2 := fun x y H Q => ∃ i j, NumV x i ∧ y = .int j ∧ Q (.int (f i j)) H
theorem numV {x : V} {i : Int} (h : NumV x i) : x = .int i ∨ ∃ b, x = .bl b ∧ (if b = true then (1 : Int) else 0) = i := by
  cases x with
  | int k => exact .inl (by rw [show k = i from h])
  | bl b => exact .inr ⟨b, rfl, h⟩
  | non => exact h.elim
  | str => exact h.elim
  | byt => exact h.elim
  | flt => exact h.elim
  | ref => exact h.elim
  | ty => exact h.elim
theorem op_addN : OpR X (binaryOp .Add) (rNum (· + ·)) := by
  intro pins s σ H x y v u Q I rx ry hq
  obtain ⟨i, j, hx, rfl, q⟩ := hq
  rcases numV hx with rfl | ⟨b, rfl, e⟩
  · exact op_add pins s σ H _ _ v u Q I rx ry ⟨i, j, rfl, rfl, q⟩
  · obtain rfl : v = Value.bool b := rx
    obtain ⟨t, rfl⟩ := ry
    exact PySem.IntBool.add_bool_int ⟨.int _, H, I.tok _, ⟨_, rfl⟩, by rw [e]; exact q⟩
theorem op_subN : OpR X (binaryOp .Sub) (rNum (· - ·)) := by
  intro pins s σ H x y v u Q I rx ry hq
  obtain ⟨i, j, hx, rfl, q⟩ := hq
  rcases numV hx with rfl | ⟨b, rfl, e⟩
  · exact op_sub pins s σ H _ _ v u Q I rx ry ⟨i, j, rfl, rfl, q⟩
  · obtain rfl : v = Value.bool b := rx
    obtain ⟨t, rfl⟩ := ry
    exact PySem.IntBool.sub_bool_int ⟨.int _, H, I.tok _, ⟨_, rfl⟩, by rw [e]; exact q⟩
def rEqN : R2 := fun x y H Q => ∃ i j, NumV x i ∧ y = .int j ∧ Q (.bl (decide (i = j))) H
theorem op_eqN : OpR X (compareOp .Eq) rEqN := by
  intro pins s σ H x y v u Q I rx ry hq
  obtain ⟨i, j, hx, rfl, q⟩ := hq
  obtain ⟨t, rfl⟩ := ry
  rcases numV hx with rfl | ⟨b, rfl, e⟩
  · obtain ⟨t', rfl⟩ := rx
    exact PySem.EqBoolInt.of_rc (SeqAt.RcAt.int_int i t' j t) ⟨.bl _, H, I, by show Value.bool _ = Value.bool _; congr 1, q⟩
  · obtain rfl : v = Value.bool b := rx
    exact PySem.EqBoolInt.eq_bool_int ⟨.bl _, H, I, by show Value.bool _ = Value.bool _; congr 1; rw [← e]; rfl, q⟩
def rStrN : List V → Hp → VK → Prop := fun xs H Q => ∃ (x : V) (i : Int), xs = [x] ∧ NumV x i ∧ i.natAbs.log2 < 1920 ∧ ∀ z : String, z.length ≤ i.natAbs.log2 + 7 → Q (.str (Str.ofString z)) H
theorem call_strN : CallR X (.type "str") rStrN := by
  intro pins s σ H xs us Q I r hq
  obtain ⟨x, i, rfl, hx, hz, q⟩ := hq
  obtain ⟨u, rfl, ru⟩ := vals1 r
  rcases numV hx with rfl | ⟨b, rfl, e⟩
  · obtain ⟨t, rfl⟩ := ru
    refine PySem.P.str_of_int hz ⟨.str _, H, I.tok _, ⟨_, rfl⟩, q _ ?_⟩
    have := int_text_length_le (a := i) (k := i.natAbs.log2 + 1) (by omega) (by omega)
    omega
  · obtain rfl : u = Value.bool b := ru
    cases b
    · refine PySem.P.str_of_bool ⟨.str _, H, I.tok _, ⟨_, rfl⟩, q "False" ?_⟩
      exact Nat.le_trans (show ("False" : String).length ≤ 7 by decide) (Nat.le_add_left _ _)
    · refine PySem.P.str_of_bool ⟨.str _, H, I.tok _, ⟨_, rfl⟩, q "True" ?_⟩
      exact Nat.le_trans (show ("True" : String).length ≤ 7 by decide) (Nat.le_add_left _ _)
end
theorem rep_len (z : String) : (reprText (Str.ofString z)).length ≤ 10 * z.length + 2 := by
  refine Nat.le_trans (PySem.StrLaws.reprText_len _ ?_) (by rw [PySem.ofString_length]; exact Nat.le_refl _)
  intro c hc
  rw [Str.ofString_eq_toList] at hc
  simp only [List.mem_map] at hc
  obtain ⟨x, _, rfl⟩ := hc
  exact Nat.lt_of_lt_of_le x.val.toNat_lt (by decide)
/-! ### t[::-1] -/
section
variable {prog : Program} {w : World} {A : Around} {E : Value → Shared → Prop} {s : Shared}
theorem back_places (n : Nat) : Builtin.Slice.sliceAdjust none none (-1) (n : Int) = ((n : Int) - 1, -1) ∧ Builtin.Slice.slicePlaces ((n : Int) - 1) (-1) (-1) = n := by
  constructor
  · rfl
  · unfold Builtin.Slice.slicePlaces
    rw [if_neg (by decide)]
    by_cases h : (n : Int) - 1 > -1
    · rw [if_pos h, show (- -1 : Int) = 1 from rfl, Int.ediv_one]; omega
    · rw [if_neg h]; omega
theorem fm_congr {α β : Type} {f g : α → Option β} : ∀ l : List α, (∀ x ∈ l, f x = g x) → l.filterMap f = l.filterMap g
  | [], _ => rfl
  | a :: l, h => by
    rw [List.filterMap_cons, List.filterMap_cons, h a List.mem_cons_self, fm_congr l fun x hx => h x (List.mem_cons_of_mem _ hx)]
theorem back_pick (xs : Array Value) : ((List.range xs.size).filterMap fun (k : Nat) => xs[((xs.size : Int) - 1 + (k : Int) * -1).toNat]?) = xs.toList.reverse := by
  have e : ((List.range xs.size).filterMap fun (k : Nat) => xs[((xs.size : Int) - 1 + (k : Int) * -1).toNat]?) = ((List.range xs.size).map fun k => xs.size - 1 - k).filterMap (xs[·]?) := by
    rw [List.filterMap_map]
    refine fm_congr _ fun k hk => ?_
    have := List.mem_range.mp hk
    have e2 : ((xs.size : Int) - 1 + (k : Int) * -1).toNat = xs.size - 1 - k := by omega
    show xs[_]? = xs[_]?
    rw [e2]
  rw [e, PySem.W.krv_range, List.filterMap_reverse, PySem.W.krv_all]
theorem getItem_back {t sl : Addr} {its : Array Value} {vs : Value} {Q : Value → Shared → Prop} (ht : IsTup s.heap t its) (hs : s.heap.IsSliceOf sl .none .none vs) (ps : IsPart vs (some (-1))) (hz : its.size ≤ sizeLine)
    (q : Q (.ref s.heap.objs.size) { s with heap := s.heap.push { cls := .type "tuple", data := .seq its.toList.reverse.toArray } }) : wpAny (model prog w) A (getItem (.ref t) (.ref sl)) Q E s := by
  obtain ⟨so, so1, so2, so3⟩ := id hs
  have sty : s.TypeIs (.ref sl) "slice" := ⟨so, so1, so2⟩
  have fits : sizeOk (.seq its.toList.reverse.toArray) := by
    show its.toList.reverse.toArray.size ≤ sizeLine
    simpa using hz
  unfold getItem
  try with_reducible refine wpAny_holding ?_
  first | refine wpAny_bind (wpAny_pure ?_) | skip
  refine wpAny_bind (wpAny_sequenceKey ht.typeIs (by decide) ?_)
  refine wpAny_bind (wpAny_callSpecial?_slot (name := Str.ofString "__getitem__") ht.typeIs PyProof.Rows.slot_tuple_getitem (wpAny_call_entry PyProof.Rows.slot_tuple_getitem ht.typeIs entry_tuple_getitem ?_ (args_tuple_getitem _ _)))
  show wpAny _ _ (Builtin.Tuple.tupleItemsOf (.ref t) >>= _) _ _ s
  refine wpAny_bind (tupleItemsOf_ ht (wpAny_bind (wpAny_typeOf sty ?_)))
  rw [if_pos (by decide)]
  have ap : ∀ {R : Int × Int × Nat → Shared → Prop} {A : Around} {E : Value → Shared → Prop}, R ((its.size : Int) - 1, -1, its.size) s → wpAny (model prog w) A (Builtin.Slice.sliceApplied (.ref sl) (pure (its.size : Int))) R E s := by
    intro R A E hR
    unfold Builtin.Slice.sliceApplied Builtin.Slice.sliceFields
    refine wpAny_bind (wpAny_bind (wpAny_field so1 so3 (x := .none) rfl (wpAny_bind (wpAny_field so1 so3 (x := .none) rfl (wpAny_bind (wpAny_field so1 so3 (x := vs) rfl (wpAny_pure ?_)))))))
    refine wpAny_bind (HT.slicePart_ ps ?_)
    show wpAny _ _ (if ((-1 : Int) == 0) = true then _ else _) _ _ s
    rw [if_neg (by decide)]
    refine wpAny_bind (slicePart_none (wpAny_bind (slicePart_none (wpAny_bind (wpAny_pure ?_)))))
    show wpAny _ _ (match Builtin.Slice.sliceAdjust none none (-1) (its.size : Int) with | (lo, hi) => pure (lo, (-1 : Int), Builtin.Slice.slicePlaces lo hi (-1))) _ _ s
    rw [(back_places its.size).1]
    show wpAny _ _ (pure ((its.size : Int) - 1, (-1 : Int), Builtin.Slice.slicePlaces ((its.size : Int) - 1) (-1) (-1))) _ _ s
    rw [(back_places its.size).2]
    exact wpAny_pure hR
  refine wpAny_bind (ap ?_)
  show wpAny _ _ (if (((its.size : Int) - 1 == 0 && (-1 : Int) == 1 && its.size == its.size) = true) then _ else _) _ _ s
  rw [if_neg (by simp), back_pick]
  first
    | exact wpAny_bind (m := Builtin.Tuple.tupleExact _) (wpAny_newObj_type (wpAny_pure ⟨_, rfl, wpAny_pure q⟩) fits)
    | exact wpAny_bind (m := Builtin.Tuple.tupleExact _) (wpAny_newObj_type (wpAny_bind (wpAny_pure (wpAny_pure ⟨_, rfl, wpAny_pure q⟩))) fits)
    | exact wpAny_bind (wpAny_bind (m := Builtin.Tuple.tupleExact _) (wpAny_newObj_type (wpAny_pure (wpAny_pure ⟨_, rfl, wpAny_pure q⟩)) fits))
    | exact wpAny_bind (wpAny_bind (m := Builtin.Tuple.tupleExact _) (wpAny_newObj_type (wpAny_pure ⟨_, rfl, wpAny_pure q⟩) fits))
end
section
variable {X : Cx}
def tRevT (K : PySem.W.Frag) (te : TE) : TE := fun σ H Q => te σ H fun x H1 => ∃ a xs, x = .ref a ∧ SqT K H1 a xs ∧ ∀ q, H1 q = none → Q (.ref q) (upd H1 q (.tup xs.reverse))
theorem pe_revT {e : Expr} {te : TE} {k : Nat} {p1 p2 p3 pos : Pos} (K : PySem.W.Frag) (he : PE X e te) (hK : X.K = K := by rfl) :
    PE X (.Subscript e (.Slice none none (some (.UnaryOp .USub (.Constant (.int 1) k p1) p2)) p3) pos) (tRevT K te) := by
  subst hK
  constructor
  intro pins s σ H Q I h
  refine Subscript_ (thn (he.run pins s σ H _ I h) fun v s1 ⟨x, H1, I1, r1, a, xs, ex, hx, q⟩ => ?_)
  subst ex
  obtain rfl : v = Value.ref a := r1
  have step : PO X (some (.UnaryOp .USub (.Constant (.int 1) k p1) p2)) (tPart (tUn (rU fun i => .int (-i)) (tC (.int 1)))) := po_some (pe_un un_neg pe_int)
  refine wpAny_Slice (thn (po_none.run pins s1 σ H1 (fun o Ho => o = none ∧ Ho = H1) I1 ⟨rfl, rfl⟩) fun vl s2 ⟨l, H2, I2, pl, el, e2⟩ => ?_)
  subst e2; subst el
  refine thn (po_none.run pins s2 σ H2 (fun o Ho => o = none ∧ Ho = H2) I2 ⟨rfl, rfl⟩) fun vu s3 ⟨u, H3, I3, pu, eu, e3⟩ => ?_
  subst e3; subst eu
  refine thn (step.run pins s3 σ H3 (fun o Ho => o = some (-1) ∧ Ho = H3) I3 ⟨1, rfl, -1, rfl, rfl, rfl⟩) fun vs s4 ⟨o, H4, I4, ps, eo, e4⟩ => ?_
  subst e4; subst eo
  cases pl
  cases pu
  have I5 : Inv X pins σ H4 { s4 with heap := s4.heap.push { cls := .type "slice", data := .fields #[.none, .none, vs] } } := I4.kept (t' := s4.toks) fun b ob z => Heap.get?_push_of_some _ z
  obtain ⟨its, rv, tp, hz⟩ := I5.tuple hx
  have hl := rv.length
  show wpAny (model X.prog X.w) X.A (subscriptTail e (.Slice none none (some (.UnaryOp .USub (.Constant (.int 1) k p1) p2)) p3) (.ref a) (.ref s4.heap.objs.size)) (EP X pins σ Q) X.xe { s4 with heap := s4.heap.push { cls := .type "slice", data := .fields #[.none, .none, vs] } }
  refine tail_any (ops := [.ref a, .ref s4.heap.objs.size]) tp.typeIs (PyProof.Rows.slot_tuple_getitem.lookup) ?_ (by with_unfolding_all rfl)
  refine getItem_back tp (Heap.IsSliceOf.new _ .none .none vs) ps (by rw [List.size_toArray]; omega) ?_
  refine ⟨.ref _, _, I5.laid (t' := s4.toks) (o := .tup xs.reverse) (fun b ob z => Heap.get?_push_of_some _ z) (Nat.le_refl _) ⟨by rw [List.length_reverse]; exact hz, _, rv.reverse, ?_⟩, rfl, q _ (I5.hok.fresh (Nat.le_refl _))⟩
  exact ⟨_, Heap.get?_push_size _ rfl, rfl, 0, rfl⟩
end
end LA

namespace LA
open PySem L2
/-! ### how great a value may be: its ints, its text, its depth -/
mutual
def IB (n : Nat) : PyData → Prop
  | .int i => i.natAbs ≤ n
  | .list xs => IBs n xs
  | .tuple xs => IBs n xs
  | .dict kvs => IBk n kvs
  | .none => True
  | .bool _ => True
  | .str _ => True
def IBs (n : Nat) : List PyData → Prop
  | [] => True
  | x :: xs => IB n x ∧ IBs n xs
def IBk (n : Nat) : List (PyData × PyData) → Prop
  | [] => True
  | (k, v) :: r => IB n k ∧ IB n v ∧ IBk n r
end
theorem IBs_iff {n : Nat} : ∀ {xs : List PyData}, IBs n xs ↔ ∀ x ∈ xs, IB n x
  | [] => by simp [IBs]
  | x :: xs => by simp [IBs, IBs_iff (xs := xs)]
mutual
theorem IB.mono {n m : Nat} (h : n ≤ m) : ∀ d : PyData, IB n d → IB m d
  | .int i, q => by simp only [IB] at *; omega
  | .list xs, q => by simp only [IB] at *; exact IBs.mono h xs q
  | .tuple xs, q => by simp only [IB] at *; exact IBs.mono h xs q
  | .dict kvs, q => by simp only [IB] at *; exact IBk.mono h kvs q
  | .none, _ => by simp only [IB]
  | .bool _, _ => by simp only [IB]
  | .str _, _ => by simp only [IB]
theorem IBs.mono {n m : Nat} (h : n ≤ m) : ∀ d : List PyData, IBs n d → IBs m d
  | [], _ => by simp only [IBs]
  | x :: xs, q => by simp only [IBs] at *; exact ⟨IB.mono h x q.1, IBs.mono h xs q.2⟩
theorem IBk.mono {n m : Nat} (h : n ≤ m) : ∀ d : List (PyData × PyData), IBk n d → IBk m d
  | [], _ => by simp only [IBk]
  | (k, v) :: xs, q => by simp only [IBk] at *; exact ⟨IB.mono h k q.1, IB.mono h v q.2.1, IBk.mono h xs q.2.2⟩
end
theorem log_small {n : Nat} {m : Nat} (h : n ≤ m) (hm : m < 2 ^ 200) : n.log2 < 200 := PySem.Flt.log2_lt_of (by decide) (by omega)
mutual
theorem IB.show {n : Nat} (h : n < 2 ^ 200) : ∀ d : PyData, IB n d → d.showable = true
  | .int i, q => by simp only [IB] at q; simp only [PyData.showable, decide_eq_true_eq]; have := log_small q h; omega
  | .list xs, q => by simp only [IB] at q; simp only [PyData.showable]; exact IBs.show h xs q
  | .tuple xs, q => by simp only [IB] at q; simp only [PyData.showable]; exact IBs.show h xs q
  | .dict kvs, q => by simp only [IB] at q; simp only [PyData.showable]; exact IBk.show h kvs q
  | .none, _ => by simp only [PyData.showable]
  | .bool _, _ => by simp only [PyData.showable]
  | .str _, _ => by simp only [PyData.showable]
theorem IBs.show {n : Nat} (h : n < 2 ^ 200) : ∀ d : List PyData, IBs n d → PyData.showableAll d = true
  | [], _ => by simp only [PyData.showableAll]
  | x :: xs, q => by simp only [IBs] at q; simp only [PyData.showableAll, IB.show h x q.1, IBs.show h xs q.2, Bool.and_self]
theorem IBk.show {n : Nat} (h : n < 2 ^ 200) : ∀ d : List (PyData × PyData), IBk n d → PyData.showableKv d = true
  | [], _ => by simp only [PyData.showableKv]
  | (k, v) :: xs, q => by simp only [IBk] at q; simp only [PyData.showableKv, IB.show h k q.1, IB.show h v q.2.1, IBk.show h xs q.2.2, Bool.and_self]
end
theorem depthAll_le {e : Nat} : ∀ {xs : List PyData}, PyData.depthAll xs ≤ e ↔ ∀ x ∈ xs, x.depth ≤ e
  | [] => by simp [PyData.depthAll]
  | x :: xs => by
    have ih := depthAll_le (e := e) (xs := xs)
    simp only [PyData.depthAll, List.mem_cons, forall_eq_or_imp, Nat.max_le, ih]
theorem szAll_app : ∀ xs ys : List PyData, szAll (xs ++ ys) = szAll xs + szAll ys
  | [], ys => by simp [szAll]
  | x :: xs, ys => by simp only [List.cons_append, szAll, szAll_app xs ys]; omega
theorem szAll_rev : ∀ xs : List PyData, szAll xs.reverse = szAll xs
  | [] => rfl
  | x :: xs => by simp only [List.reverse_cons, szAll_app, szAll_rev xs, szAll]; omega
theorem szAll_cut (xs : List PyData) (n : Nat) : szAll (xs.take n) + szAll (xs.drop n) = szAll xs := by
  rw [← szAll_app, List.take_append_drop]
structure Bd (n s e : Nat) (d : PyData) : Prop where
  ib : IB n d
  sz : szD d ≤ s
  dp : d.depth ≤ e
structure Bds (n s e : Nat) (ds : List PyData) : Prop where
  ib : ∀ x ∈ ds, IB n x
  sz : szAll ds ≤ s
  dp : ∀ x ∈ ds, x.depth ≤ e
theorem Bd.mono {n s e n' s' e' : Nat} {d : PyData} (h : Bd n s e d) (h1 : n ≤ n') (h2 : s ≤ s') (h3 : e ≤ e') : Bd n' s' e' d := ⟨h.ib.mono h1 d, Nat.le_trans h.sz h2, Nat.le_trans h.dp h3⟩
theorem Bds.mono {n s e n' s' e' : Nat} {d : List PyData} (h : Bds n s e d) (h1 : n ≤ n') (h2 : s ≤ s') (h3 : e ≤ e') : Bds n' s' e' d := ⟨fun x hx => (h.ib x hx).mono h1 x, Nat.le_trans h.sz h2, fun x hx => Nat.le_trans (h.dp x hx) h3⟩
theorem Bd.tup {n s e : Nat} {ds : List PyData} (h : Bds n s e ds) : Bd n (s + 3) (e + 1) (.tuple ds) := ⟨by simp only [IB]; exact IBs_iff.mpr h.ib, by simp only [szD]; have := h.sz; omega, by simp only [PyData.depth]; have := depthAll_le.mpr h.dp; omega⟩
theorem Bd.lst {n s e : Nat} {ds : List PyData} (h : Bds n s e ds) : Bd n (s + 3) (e + 1) (.list ds) := ⟨by simp only [IB]; exact IBs_iff.mpr h.ib, by simp only [szD]; have := h.sz; omega, by simp only [PyData.depth]; have := depthAll_le.mpr h.dp; omega⟩
theorem Bd.dic {n s e : Nat} {d : PyData} (h : Bd n s e d) : Bd n (s + 9) (e + 1) (.dict [(.int 0, d)]) := by
  refine ⟨by simp only [IB, IBk]; exact ⟨by simp, h.ib, trivial⟩, ?_, ?_⟩
  · simp only [szD, szKv]; have := h.sz; have e0 : (0 : Int).natAbs.log2 = 0 := by decide
    omega
  · simp only [PyData.depth, PyData.depthKv]; have := h.dp; omega
theorem Bd.untup {n s e : Nat} {ds : List PyData} (h : Bd n s e (.tuple ds)) : Bds n (s - 3) (e - 1) ds ∧ 1 ≤ e ∧ 3 ≤ s := by
  obtain ⟨h1, h2, h3⟩ := h
  simp only [IB] at h1
  simp only [szD] at h2
  simp only [PyData.depth] at h3
  exact ⟨⟨IBs_iff.mp h1, by omega, depthAll_le.mp (by omega)⟩, by omega, by omega⟩
theorem Bds.nil {n s e : Nat} : Bds n s e [] := ⟨nofun, by simp [szAll], nofun⟩
theorem Bds.cons {n s t e : Nat} {d : PyData} {ds : List PyData} (h : Bd n s e d) (k : Bds n t e ds) : Bds n (s + 2 + t) e (d :: ds) :=
  ⟨fun x hx => (List.mem_cons.mp hx).elim (fun z => z ▸ h.ib) (k.ib x), by simp only [szAll]; have := h.sz; have := k.sz; omega, fun x hx => (List.mem_cons.mp hx).elim (fun z => z ▸ h.dp) (k.dp x)⟩
theorem Bds.app {n s t e : Nat} {ds es : List PyData} (h : Bds n s e ds) (k : Bds n t e es) : Bds n (s + t) e (ds ++ es) :=
  ⟨fun x hx => (List.mem_append.mp hx).elim (h.ib x) (k.ib x), by rw [szAll_app]; have := h.sz; have := k.sz; omega, fun x hx => (List.mem_append.mp hx).elim (h.dp x) (k.dp x)⟩
theorem Bds.take {n s e : Nat} {ds : List PyData} (h : Bds n s e ds) (i : Nat) : Bds n s e (ds.take i) :=
  ⟨fun x hx => h.ib x (List.mem_of_mem_take hx), by have := szAll_cut ds i; have := h.sz; omega, fun x hx => h.dp x (List.mem_of_mem_take hx)⟩
theorem Bds.drop {n s e : Nat} {ds : List PyData} (h : Bds n s e ds) (i : Nat) : Bds n s e (ds.drop i) :=
  ⟨fun x hx => h.ib x (List.mem_of_mem_drop hx), by have := szAll_cut ds i; have := h.sz; omega, fun x hx => h.dp x (List.mem_of_mem_drop hx)⟩
theorem Bds.rev {n s e : Nat} {ds : List PyData} (h : Bds n s e ds) : Bds n s e ds.reverse :=
  ⟨fun x hx => h.ib x (List.mem_reverse.mp hx), by rw [szAll_rev]; exact h.sz, fun x hx => h.dp x (List.mem_reverse.mp hx)⟩
theorem Bds.get {n s e : Nat} {ds : List PyData} {i : Nat} {d : PyData} (h : Bds n s e ds) (hd : ds[i]? = some d) : Bd n s e d :=
  ⟨h.ib d (List.mem_of_getElem? hd), Nat.le_trans (szAll_mem (List.mem_of_getElem? hd)) h.sz, h.dp d (List.mem_of_getElem? hd)⟩
/-- one part otherwise -/
theorem Bds.put {n s e n' s' e' : Nat} {ds : List PyData} {i : Nat} {d d' : PyData} (h : Bds n s e ds) (hd : ds[i]? = some d) (h' : Bd n' s' e' d') (hn : n ≤ n') (he : e ≤ e') : Bds n' (s - szD d + s') e' (ds.take i ++ d' :: ds.drop (i + 1)) := by
  refine ⟨fun x hx => ?_, ?_, fun x hx => ?_⟩
  · rcases List.mem_append.mp hx with hx | hx
    · exact (h.ib x (List.mem_of_mem_take hx)).mono hn x
    · rcases List.mem_cons.mp hx with rfl | hx
      · exact h'.ib
      · exact (h.ib x (List.mem_of_mem_drop hx)).mono hn x
  · have e1 := szAll_cut ds i
    have hlt : i < ds.length := by
      rcases Nat.lt_or_ge i ds.length with z | z
      · exact z
      · rw [List.getElem?_eq_none z] at hd; cases hd
    have e2 : ds.drop i = d :: ds.drop (i + 1) := by
      rw [List.drop_eq_getElem_cons hlt]; congr 1
      rw [List.getElem?_eq_getElem hlt] at hd; exact Option.some.inj hd
    rw [e2] at e1
    simp only [szAll] at e1
    rw [szAll_app]
    simp only [szAll]
    have := h.sz; have := h'.sz
    omega
  · rcases List.mem_append.mp hx with hx | hx
    · exact Nat.le_trans (h.dp x (List.mem_of_mem_take hx)) he
    · rcases List.mem_cons.mp hx with rfl | hx
      · exact h'.dp
      · exact Nat.le_trans (h.dp x (List.mem_of_mem_drop hx)) he
theorem Bds.len {n s e : Nat} {ds : List PyData} (h : Bds n s e ds) : ds.length ≤ s := by
  have : ∀ ds : List PyData, ds.length ≤ szAll ds := by
    intro ds; induction ds with
    | nil => simp
    | cons d ds ih => simp only [List.length_cons, szAll]; omega
  exact Nat.le_trans (this ds) h.sz
/-- a drawn value of any kind -/
def spOdd (K : PySem.W.Frag) : Sp := fun vs H Q _ => ∃ (p : Addr) (Z : Addr → Prop) (n : Nat), vs = [.ref p] ∧ PotAt H p n ∧ Trk Z H ∧ n < 900000 ∧
  ∀ (H' : Hp) (v : V) (d : PyData), SameX p H H' → PotAt H' p (n + 20) → Dq K p Z H' v d → Bd (10 ^ 30) 300 19 d → Q v H'
/-- a value with one part otherwise, of depth below D -/
def spBent (K : PySem.W.Frag) : Nat → Sp
  | 0 => fun vs _ _ _ => vs.length = 2 ∧ False
  | D + 1 => fun vs H Q _ => ∃ (p : Addr) (Z : Addr → Prop) (v : V) (d : PyData) (n m s e : Nat), vs = [.ref p, v] ∧ PotAt H p n ∧ Trk Z H ∧ n + 2 * D < 800000 ∧ Dq K p Z H v d ∧ 10 ^ 30 ≤ m ∧ m ≤ 10 ^ 31 ∧ e ≤ D ∧ Bd m s e d ∧ s ≤ 1000000 ∧
    ∀ (H' : Hp) (v' : V) (d' : PyData), SameX p H H' → PotAt H' p (n + 2 * D + 22) → Dq K p Z H' v' d' → Bd (m + 1) (2 * s + 3000) (e + 20) d' → Q v' H'
end LA

namespace LA
open PySem L2
/-! ### numbers and words among any values -/
def isNB (lim : Int) : PyData → Bool
  | .int i => decide (0 ≤ i) && decide (i < lim)
  | _ => false
def isLet (lim : Int) : PyData → Bool
  | .tuple ds => ds.all (isNB lim)
  | _ => false
def isWd (lim : Int) : PyData → Bool
  | .tuple ds => ds.all (isNB lim) && decide (ds.length ≤ 400)
  | _ => false
/-- whether any value is a number below the limit -/
def spNB (K : PySem.W.Frag) : Sp := fun vs H Q _ => ∃ (p : Addr) (Z : Addr → Prop) (v : V) (d : PyData) (lim : Int), vs = [v, .int lim] ∧ Dq K p Z H v d ∧ Q (.bl (isNB lim d)) H
/-- the numbers of a judge's letters -/
def spInC (K : PySem.W.Frag) : Sp := fun vs H Q _ => ∃ (v : V) (j : Jd) (nx ny : Nat), vs = [v] ∧ JAt K H v j ∧ IsJ j nx ny ∧ Q (.int (nx : Int)) H
def spOutC (K : PySem.W.Frag) : Sp := fun vs H Q _ => ∃ (v : V) (j : Jd) (nx ny : Nat), vs = [v] ∧ JAt K H v j ∧ IsJ j nx ny ∧ Q (.int (ny : Int)) H
def spLet (K : PySem.W.Frag) : Sp := fun vs H Q _ => ∃ (p : Addr) (Z : Addr → Prop) (v : V) (d : PyData) (lim : Int), vs = [v, .int lim] ∧ Dq K p Z H v d ∧ szD d ≤ 1000000 ∧ ∀ H', Same H H' → Q (.bl (isLet lim d)) H'
def spWd (K : PySem.W.Frag) : Sp := fun vs H Q _ => ∃ (p : Addr) (Z : Addr → Prop) (v : V) (d : PyData) (lim : Int), vs = [v, .int lim] ∧ Dq K p Z H v d ∧ szD d ≤ 1000000 ∧ ∀ H', Same H H' → Q (.bl (isWd lim d)) H'
def spInW (K : PySem.W.Frag) : Sp := fun vs H Q _ => ∃ (p : Addr) (Z : Addr → Prop) (u v : V) (d : PyData) (j : Jd) (nx ny : Nat), vs = [u, v] ∧ JAt K H u j ∧ IsJ j nx ny ∧ Dq K p Z H v d ∧ szD d ≤ 1000000 ∧ ∀ H', Same H H' → Q (.bl (isWd nx d)) H'
def spOutW (K : PySem.W.Frag) : Sp := fun vs H Q _ => ∃ (p : Addr) (Z : Addr → Prop) (u v : V) (d : PyData) (j : Jd) (nx ny : Nat), vs = [u, v] ∧ JAt K H u j ∧ IsJ j nx ny ∧ Dq K p Z H v d ∧ szD d ≤ 1000000 ∧ ∀ H', Same H H' → Q (.bl (isWd ny d)) H'
theorem szAll_len : ∀ ds : List PyData, ds.length * 2 ≤ szAll ds
  | [] => by simp [szAll]
  | d :: ds => by have := szAll_len ds; simp only [List.length_cons, szAll]; omega
theorem takeLt {α : Type} {ds : List PyData} {i : Nat} {f : PyData → α} {g : α → V} (h : szD (.tuple ds) ≤ 1000000) : (((ds.take i).map f).map g).length < sizeLine := by
  have h1 := szAll_len ds
  simp only [szD] at h
  rw [List.length_map, List.length_map, List.length_take]
  exact Nat.lt_of_le_of_lt (show min i ds.length ≤ 1000000 by omega) (by decide)
/-- the first state and the first row of a judge -/
theorem JAt.first {K : PySem.W.Frag} {H : Hp} {v : V} {j : Jd} {nx ny : Nat} (h : JAt K H v j) (i : IsJ j nx ny) : ∃ (a b c : Addr) (vs us : List V) (r : Rw), v = .ref a ∧ SqT K H a vs ∧ vs[0]? = some (.ref b) ∧ SqT K H b us ∧ us.length = nx ∧ us[0]? = some (.ref c) ∧ SqT K H c (r.map oV) ∧ r.length = ny := by
  obtain ⟨a, vs, rfl, hs, hp⟩ := h
  have n1 := i.n1
  have hj0 : j[0]? = some (j[0]'(by omega)) := List.getElem?_eq_getElem (by omega)
  obtain ⟨x, hx, b, us, rfl, hs2, hp2⟩ := paired_at' hp hj0
  obtain ⟨e1, e2⟩ := i.st _ (List.mem_of_getElem? hj0)
  have hl2 := paired_len hp2
  have x1 := i.x1
  have hr0 : (j[0]'(by omega))[0]? = some ((j[0]'(by omega))[0]'(by omega)) := List.getElem?_eq_getElem (by omega)
  obtain ⟨y, hy, c, rfl, hs3⟩ := paired_at' hp2 hr0
  exact ⟨a, b, c, vs, us, _, rfl, hs, hx, hs2, by omega, hy, hs3, (e2 _ (List.mem_of_getElem? hr0)).1⟩
end LA

namespace LA
open PySem L2
/-! ### lists of any values -/
structure VL (K : PySem.W.Frag) (p : Addr) (Z : Addr → Prop) (N S E : Nat) (H : Hp) (l : Addr) (vs : List V) (ds : List PyData) : Prop where
  at' : H l = some (.lst vs)
  ne : l ≠ p
  dq : DqAll K p Z H vs ds
  bd : ∀ d ∈ ds, Bd N S E d
section
variable {K : PySem.W.Frag} {p : Addr} {Z : Addr → Prop} {N S E : Nat} {H H' : Hp} {l : Addr} {vs : List V} {ds : List PyData}
theorem VL.x {n : Nat} (h : VL K p Z N S E H l vs ds) (P : PotAt H p n) (s : SameX p H H') : VL K p Z N S E H' l vs ds := ⟨s _ _ h.at' h.ne, h.ne, h.dq.mv P s, h.bd⟩
theorem VL.s (h : VL K p Z N S E H l vs ds) (s : Same H H') : VL K p Z N S E H' l vs ds := ⟨s _ _ h.at', h.ne, h.dq.same s, h.bd⟩
theorem VL.new {n : Nat} {q : Addr} (P : PotAt H p n) (hq : H q = none) (h : DqAll K p Z H vs ds) (hb : ∀ d ∈ ds, Bd N S E d) : VL K p Z N S E (upd H q (.lst vs)) q vs ds :=
  ⟨upd_same, P.ne hq, h.same ((Same.refl H).new hq), hb⟩
theorem VL.get {i : Nat} {v : V} (h : VL K p Z N S E H l vs ds) (e : vs[i]? = some v) : ∃ d, ds[i]? = some d ∧ Dq K p Z H v d ∧ Bd N S E d := by
  obtain ⟨d, e1, e2⟩ := h.dq.get e
  exact ⟨d, e1, e2, h.bd d (List.mem_of_getElem? e1)⟩
theorem VL.cat {n : Nat} {l2 : Addr} {us : List V} {es : List PyData} {Q : VK} (h : VL K p Z N S E H l vs ds) (P : PotAt H p n) (h2 : H l2 = some (.lst us)) (hu : DqAll K p Z H us es) (hb : ∀ d ∈ es, Bd N S E d) (hl : vs.length + us.length ≤ 1000)
    (k : ∀ q H', Same H H' → VL K p Z N S E H' q (vs ++ us) (ds ++ es) → Q (.ref q) H') : rCat (.ref l) (.ref l2) H Q := by
  refine ⟨l, l2, vs, us, rfl, rfl, h.at', h2, Nat.le_trans hl (by decide), fun q hq => ?_⟩
  exact k q _ ((Same.refl H).new hq) (VL.new P hq (h.dq.app hu) fun d hd => (List.mem_append.mp hd).elim (h.bd d) (hb d))
end
theorem dq_eq {K : PySem.W.Frag} {p : Addr} {Z : Addr → Prop} {H : Hp} {xs ys : List V} {ds : List PyData} (e : xs = ys) (h : DqAll K p Z H ys ds) : DqAll K p Z H xs ds := e ▸ h
theorem flat_rep {α : Type} (x : α) : ∀ n : Nat, (List.replicate n [x]).flatten = List.replicate n x
  | 0 => rfl
  | n + 1 => by rw [List.replicate_succ, List.flatten_cons, flat_rep x n, List.replicate_succ]; rfl
theorem rep_dq {K : PySem.W.Frag} {p : Addr} {Z : Addr → Prop} {H : Hp} {v : V} {d : PyData} (h : Dq K p Z H v d) : ∀ n : Nat, DqAll K p Z H (List.replicate n v) (List.replicate n d)
  | 0 => .nil
  | n + 1 => .cons h (rep_dq h n)
theorem rep_bd {N s e : Nat} {d : PyData} (h : Bd N s e d) : ∀ n : Nat, Bds N (n * (s + 2)) e (List.replicate n d)
  | 0 => Bds.nil
  | n + 1 => by
    rw [List.replicate_succ]
    have := Bds.cons h (rep_bd h n)
    refine this.mono (Nat.le_refl _) ?_ (Nat.le_refl _)
    rw [Nat.succ_mul]; omega
theorem int_bd {N : Nat} (i : Int) (hi : i.natAbs < 64) (hN : 64 ≤ N) : Bd N 8 0 (.int i) := by
  refine ⟨by simp only [IB]; omega, ?_, by simp [PyData.depth]⟩
  simp only [szD]
  have : i.natAbs.log2 < 6 := PySem.Flt.log2_lt_of (by decide) (by omega)
  omega
/-- what repr asks -/
theorem Bd.repr {N s e : Nat} {d : PyData} (h : Bd N s e d) (h1 : N < 2 ^ 200) (h2 : s ≤ 1000000) (h3 : e ≤ 64) : d.showable = true ∧ d.depth ≤ 64 ∧ szD d ≤ sizeLine :=
  ⟨h.ib.show h1 d, Nat.le_trans h.dp h3, Nat.le_trans (Nat.le_trans h.sz h2) (by decide)⟩
theorem bools_dq {K : PySem.W.Frag} {p : Addr} {Z : Addr → Prop} {H : Hp} : ∀ bs : List Bool, DqAll K p Z H (bs.map V.bl) (bs.map PyData.bool)
  | [] => .nil
  | b :: bs => .cons (.bl b) (bools_dq bs)
theorem bools_bd : ∀ bs : List Bool, Bds 1 (bs.length * 7) 0 (bs.map PyData.bool)
  | [] => Bds.nil
  | b :: bs => by
    have hb : Bd 1 5 0 (.bool b) := ⟨by simp [IB], by simp [szD], by simp [PyData.depth]⟩
    have := Bds.cons hb (bools_bd bs)
    refine this.mono (Nat.le_refl _) ?_ (Nat.le_refl _)
    rw [List.length_cons, Nat.succ_mul]; omega
theorem nats_dq {K : PySem.W.Frag} {p : Addr} {Z : Addr → Prop} {H : Hp} : ∀ ns : List Nat, DqAll K p Z H (ns.map nV) (ns.map nD)
  | [] => .nil
  | n :: ns => .cons (.int _) (nats_dq ns)
theorem nats_bd {N : Nat} (hN : 64 ≤ N) : ∀ ns : List Nat, (∀ x ∈ ns, x < 64) → Bds N (ns.length * 10) 0 (ns.map nD)
  | [], _ => Bds.nil
  | n :: ns, h => by
    have := Bds.cons (int_bd (N := N) (n : Int) (by have := h n List.mem_cons_self; omega) hN) (nats_bd hN ns fun x hx => h x (List.mem_cons_of_mem _ hx))
    refine this.mono (Nat.le_refl _) ?_ (Nat.le_refl _)
    rw [List.length_cons, Nat.succ_mul]; omega
end LA

namespace LA
open PySem PySem.Spec PyProof.Rows L2
open AutoSeq1 (wpAny_loadPart')
/-! ### t * 1 is t -/
theorem mul_once (l : Addr) (its : Array Value) (n : Nat) (dd : Option Addr) (sl : Array (Option Value)) (u : Tok) :
    Meets (Builtin.«tuple.__mul__» ⟨[.ref l, .int 1 u], []⟩) (fun _ R st => st.heap.get? l = some { cls := .type "tuple", dict := dd, data := .seq its n, slots := sl } ∧ R (.ok (.ret (.ref l))) st) :=
  .of_wp fun pr wo A R st hyp => by
    obtain ⟨hp, g, d, tk, os⟩ := st
    obtain ⟨hl, q⟩ := hyp
    have f1 := AutoSeq1.idx_int
    have c1 : (its.isEmpty || (1 : Int) == 1) = true := by cases its.isEmpty <;> rfl
    wp_walk using wpAny_loadPart' hl
    first
      | exact ⟨_, rfl, q⟩
      | (refine wpAny_ite_true (decide_eq_true c1) ?_; wp_walk using wpAny_loadPart' hl; exact ⟨_, rfl, q⟩)
section
variable {X : Cx}
/-- t * k, k from 1 on -/
def rRepA (K : PySem.W.Frag) : R2 := fun x y H Q => ∃ l k xs, x = .ref l ∧ y = .int k ∧ SqT K H l xs ∧ xs ≠ [] ∧ 1 ≤ k ∧ k ≤ 1000 ∧ xs.length ≤ 1000 ∧ ∀ H' q, Same H H' → SqT K H' q (List.replicate k.toNat xs).flatten → Q (.ref q) H'
theorem repAK (K : PySem.W.Frag) (h : X.K = K := by rfl) : OpR X (binaryOp .Mult) (rRepA K) := by
  subst h
  intro pins s σ H x y v u Q I rx ry hq
  obtain ⟨l, k, xs, rfl, rfl, hT, hne, h1, h2, hz, q⟩ := hq
  by_cases hk : k = 1
  · subst hk
    obtain rfl : v = Value.ref l := rx
    obtain ⟨t, rfl⟩ := ry
    obtain ⟨its, r, ⟨⟨cls, dd, data, sl⟩, ho, hc, n, hd⟩, hs⟩ := I.tuple hT
    simp only at hc hd
    subst hc hd
    refine wpAny_binaryOp_repeat_ref (T := "tuple") (U := "int") (by decide) ⟨_, ho, rfl⟩ (fun s' => typeIs_int s' 1 t) noFill_tuple_mul F.fills_int_mul F.slot_int_rmul repeat_tuple F.slot_int_index.lookup ?_
    refine call_meets F.slot_int_rmul (typeIs_int s 1 t) F.entry_int_rmul (F.args_int_rmul_2 _ _) (int_rmul_tuple 1 t l its.toArray n dd sl) ⟨ho, rfl, ⟨_, ho, rfl⟩, ?_⟩
    refine call_meets F.slot_tuple_mul ⟨_, ho, rfl⟩ F.entry_tuple_mul (F.args_tuple_mul_2 _ _) (mul_once l its.toArray n dd sl t) ⟨ho, ⟨.ref l, H, I, rfl, q H l (Same.refl H) ?_⟩⟩
    have e : (List.replicate (1 : Int).toNat xs).flatten = xs := by simp
    rw [e]; exact hT
  · exact op_repT pins s σ H _ _ v u Q I rx ry ⟨l, k, xs, rfl, rfl, hT, hne, by omega, h2, hz, fun p hp => q _ p ((Same.refl H).new hp) (SqT.of upd_same)⟩
/-! ### sets of pairs -/
theorem setTK (K : PySem.W.Frag) (P : Program) (w : World) (hc : X.calm = true) (hu : X.A.units + 64 < cLine) (h : X.K = K := by rfl) (hp : X.prog = P := by rfl) (hw : X.w = w := by rfl) : CallR X (.type "set") (rSetOfT K P w) := by
  subst h; subst hp; subst hw; exact cr_setOfT hc hu
def rLenST (P : Program) (w : World) : List V → Hp → VK → Prop := fun xs H Q => ∃ (a : Addr) (L : List (Addr × List Int)), xs = [.ref a] ∧ H a = some (SetTO P w a L) ∧ ((L.map (·.2)).Nodup → Q (.int (L.length : Int)) H)
theorem lenSTK (P : Program) (w : World) (hp : X.prog = P := by rfl) (hw : X.w = w := by rfl) : CallR X (.builtin "len") (rLenST P w) := by
  subst hp; subst hw
  intro pins s σ H xs us Q I r hq
  obtain ⟨a, L, rfl, ha, q⟩ := hq
  rw [Vals.ref1 r]
  obtain ⟨R, _, _⟩ := (show ObjOk X.prog X.w H s.heap a (SetTO X.prog X.w a L) from I.hok a _ ha)
  obtain ⟨es, ep, t, ⟨o, g1, g2, g3⟩, g4, g5, g6, g7, g8, g9, g10⟩ := R.ex
  have hl : es.size = L.length := by
    have := congrArg List.length g4
    simpa [rowsOf] using this
  have hf : t.fits es.size = true := by
    have z1 : t.place.size = L.length := by have := g5.sz; simpa using this
    have z2 : t.dummies.size = 0 := by rw [g5.dm]; rfl
    unfold SetTable.fits SetTable.fill
    simp only [Bool.and_eq_true, beq_iff_eq, decide_eq_true_eq]
    omega
  refine call_len_set g1 g2 g3 hf (by omega) ⟨.int _, H, I.tok _, ⟨_, rfl⟩, ?_⟩
  rw [hl]; exact q g6
end
/-! ### what a judge is, of any value -/
def isEnt (n : Int) (d : PyData) : Bool := match d with
  | .none => true
  | d => isNB n d
def isRw (n : Int) (ny : Nat) : PyData → Bool
  | .tuple es => decide (es.length = ny) && es.all (isEnt n)
  | _ => false
def isSt (n : Int) (nx ny : Nat) : PyData → Bool
  | .tuple rs => decide (rs.length = nx) && rs.all (isRw n ny)
  | _ => false
/-- a tuple of 1 to m parts -/
def filled (m : Nat) : PyData → Bool
  | .tuple ds => decide (1 ≤ ds.length) && decide (ds.length ≤ m)
  | _ => false
def parts : PyData → List PyData
  | .tuple ds => ds
  | _ => []
def head (d : PyData) : PyData := (parts d).headD .none
def isJdg (d : PyData) : Bool := filled 8 d && filled 4 (head d) && filled 4 (head (head d)) && (parts d).all (isSt (parts d).length (parts (head d)).length (parts (head (head d))).length)
def spEnt (K : PySem.W.Frag) : Sp := fun vs H Q _ => ∃ (p : Addr) (Z : Addr → Prop) (v : V) (d : PyData) (n : Int), vs = [v, .int n] ∧ Dq K p Z H v d ∧ Q (.bl (isEnt n d)) H
def spRw (K : PySem.W.Frag) : Sp := fun vs H Q _ => ∃ (p : Addr) (Z : Addr → Prop) (v : V) (d : PyData) (n : Int) (ny : Nat), vs = [v, .int n, .int (ny : Int)] ∧ Dq K p Z H v d ∧ szD d ≤ 1000000 ∧ ∀ H', Same H H' → Q (.bl (isRw n ny d)) H'
def spSt (K : PySem.W.Frag) : Sp := fun vs H Q _ => ∃ (p : Addr) (Z : Addr → Prop) (v : V) (d : PyData) (n : Int) (nx ny : Nat), vs = [v, .int n, .int (nx : Int), .int (ny : Int)] ∧ Dq K p Z H v d ∧ szD d ≤ 1000000 ∧ ∀ H', Same H H' → Q (.bl (isSt n nx ny d)) H'
def spFilled (K : PySem.W.Frag) : Sp := fun vs H Q _ => ∃ (p : Addr) (Z : Addr → Prop) (v : V) (d : PyData) (m : Nat), vs = [v, .int (m : Int)] ∧ Dq K p Z H v d ∧ Q (.bl (filled m d)) H
/-- whether any value is a judge -/
def spJdg (K : PySem.W.Frag) : Sp := fun vs H Q _ => ∃ (p : Addr) (Z : Addr → Prop) (v : V) (d : PyData), vs = [v] ∧ Dq K p Z H v d ∧ szD d ≤ 1000000 ∧ ∀ H', Same H H' → Q (.bl (isJdg d)) H'
/-- the law's look at one value -/
def spVal (K : PySem.W.Frag) : Sp := fun vs H Q _ => ∃ (p : Addr) (Z : Addr → Prop) (v : V) (d : PyData), vs = [v] ∧ Dq K p Z H v d ∧ Bd (10 ^ 31) 100000 64 d ∧ ∀ H', Same H H' → Q (.bl true) H'
theorem szPart {ds : List PyData} {i : Nat} {d : PyData} (h : szD (.tuple ds) ≤ 1000000) (e : ds[i]? = some d) : szD d ≤ 1000000 := by
  have := szAll_mem (List.mem_of_getElem? e)
  simp only [szD] at h
  omega
end LA

namespace LA
open PySem L2
/-! ### two looks at a judge -/
theorem all_iff {α : Type} {f : α → Bool} {l : List α} : l.all f = true ↔ ∀ x ∈ l, f x = true := by simp
/-- a row, a state by themselves -/
def okR (n : Int) (d : PyData) : Bool := filled 4 d && (parts d).all (isEnt n)
def okS (n : Int) (d : PyData) : Bool := filled 4 d && (parts d).all (okR n)
/-- the shapes of a state's rows -/
def shp (d : PyData) : List (List Int) := (parts d).map fun r => [((parts d).length : Int), ((parts r).length : Int)]
theorem filled_iff {m : Nat} {d : PyData} : filled m d = true ↔ ∃ ds, d = .tuple ds ∧ 1 ≤ ds.length ∧ ds.length ≤ m := by
  constructor
  · intro h
    cases d with
    | tuple ds =>
      simp only [filled, Bool.and_eq_true, decide_eq_true_eq] at h
      exact ⟨ds, rfl, h.1, h.2⟩
    | _ => cases h
  · rintro ⟨ds, rfl, h1, h2⟩
    simp only [filled, Bool.and_eq_true, decide_eq_true_eq]
    exact ⟨h1, h2⟩
theorem rw_iff {n : Int} {ny : Nat} {d : PyData} : isRw n ny d = true ↔ ∃ es, d = .tuple es ∧ es.length = ny ∧ ∀ x ∈ es, isEnt n x = true := by
  constructor
  · intro h
    cases d with
    | tuple es =>
      simp only [isRw, Bool.and_eq_true, decide_eq_true_eq, all_iff] at h
      exact ⟨es, rfl, h.1, h.2⟩
    | _ => cases h
  · rintro ⟨es, rfl, h1, h2⟩
    simp only [isRw, Bool.and_eq_true, decide_eq_true_eq, all_iff]
    exact ⟨h1, h2⟩
theorem st_iff {n : Int} {nx ny : Nat} {d : PyData} : isSt n nx ny d = true ↔ ∃ rs, d = .tuple rs ∧ rs.length = nx ∧ ∀ x ∈ rs, isRw n ny x = true := by
  constructor
  · intro h
    cases d with
    | tuple es =>
      simp only [isSt, Bool.and_eq_true, decide_eq_true_eq, all_iff] at h
      exact ⟨es, rfl, h.1, h.2⟩
    | _ => cases h
  · rintro ⟨es, rfl, h1, h2⟩
    simp only [isSt, Bool.and_eq_true, decide_eq_true_eq, all_iff]
    exact ⟨h1, h2⟩
theorem head_of {ds : List PyData} (h : 1 ≤ ds.length) : ∃ d l, ds = d :: l ∧ head (.tuple ds) = d := by
  cases ds with
  | nil => simp at h
  | cons d l => exact ⟨d, l, rfl, rfl⟩
/-- a judge: all its states are states by themselves, and all shapes are one -/
theorem jdg_iff {ds : List PyData} : isJdg (.tuple ds) = true ↔ 1 ≤ ds.length ∧ ds.length ≤ 8 ∧ (∀ d ∈ ds, okS ds.length d = true) ∧ ∃ c : List Int, ∀ d ∈ ds, ∀ s ∈ shp d, s = c := by
  constructor
  · intro h
    simp only [isJdg, Bool.and_eq_true] at h
    obtain ⟨⟨⟨h8, h4⟩, h4'⟩, hall⟩ := h
    obtain ⟨ds', e, l1, l8⟩ := filled_iff.mp h8
    cases e
    obtain ⟨d0, l, rfl, hd0⟩ := head_of l1
    rw [hd0] at h4 h4' hall
    obtain ⟨rs, rfl, r1, r4⟩ := filled_iff.mp h4
    obtain ⟨r0, l', rfl, hr0⟩ := head_of r1
    rw [hr0] at h4' hall
    obtain ⟨es, rfl, c1, c4⟩ := filled_iff.mp h4'
    simp only [parts] at hall
    have hall := all_iff.mp hall
    have key : ∀ d ∈ PyData.tuple (PyData.tuple es :: l') :: l, ∃ rs', d = .tuple rs' ∧ rs'.length = (PyData.tuple es :: l').length ∧ ∀ r ∈ rs', ∃ es', r = .tuple es' ∧ es'.length = es.length ∧ ∀ x ∈ es', isEnt ((PyData.tuple (PyData.tuple es :: l') :: l).length : Nat) x = true := by
      intro d hd
      obtain ⟨rs', e1, e2, e3⟩ := st_iff.mp (hall d hd)
      exact ⟨rs', e1, e2, fun r hr => rw_iff.mp (e3 r hr)⟩
    refine ⟨l1, l8, fun d hd => ?_, [((PyData.tuple es :: l').length : Int), (es.length : Int)], fun d hd s hs => ?_⟩
    · obtain ⟨rs', rfl, e2, e3⟩ := key d hd
      simp only [okS, Bool.and_eq_true, all_iff]
      refine ⟨filled_iff.mpr ⟨rs', rfl, by omega, by omega⟩, fun r hr => ?_⟩
      obtain ⟨es', rfl, e4, e5⟩ := e3 r hr
      simp only [okR, Bool.and_eq_true, all_iff]
      exact ⟨filled_iff.mpr ⟨es', rfl, by omega, by omega⟩, e5⟩
    · obtain ⟨rs', rfl, e2, e3⟩ := key d hd
      simp only [shp, List.mem_map] at hs
      obtain ⟨r, hr, rfl⟩ := hs
      obtain ⟨es', rfl, e4, e5⟩ := e3 r hr
      simp only [parts]
      rw [e2, e4]
  · rintro ⟨l1, l8, hok, c, hc⟩
    have f8 : filled 8 (.tuple ds) = true := filled_iff.mpr ⟨ds, rfl, l1, l8⟩
    obtain ⟨d0, l, rfl, hd0⟩ := head_of l1
    have hs0 := hok d0 List.mem_cons_self
    simp only [okS, Bool.and_eq_true, all_iff] at hs0
    obtain ⟨rs, rfl, r1, r4⟩ := filled_iff.mp hs0.1
    obtain ⟨r0, l', rfl, hr0⟩ := head_of r1
    have hr0' := hs0.2 r0 (by simp [parts])
    simp only [okR, Bool.and_eq_true, all_iff] at hr0'
    obtain ⟨es, rfl, c1, c4⟩ := filled_iff.mp hr0'.1
    have hc0 : c = [((PyData.tuple es :: l').length : Int), (es.length : Int)] := (hc (.tuple (.tuple es :: l')) List.mem_cons_self _ (by simp [shp, parts])).symm
    simp only [isJdg, f8, hd0, hr0, hs0.1, hr0'.1, Bool.true_and, parts]
    refine all_iff.mpr fun d hd => st_iff.mpr ?_
    have hsd := hok d hd
    simp only [okS, Bool.and_eq_true, all_iff] at hsd
    obtain ⟨rs', rfl, r1', r4'⟩ := filled_iff.mp hsd.1
    have hsh : ∀ r ∈ rs', (rs'.length : Int) = ((PyData.tuple es :: l').length : Int) ∧ ((parts r).length : Int) = (es.length : Int) := by
      intro r hr
      have := hc _ hd [(rs'.length : Int), ((parts r).length : Int)] (by simp only [shp, parts, List.mem_map]; exact ⟨r, hr, rfl⟩)
      rw [hc0] at this
      injection this with z1 z2
      injection z2 with z3 z4
      exact ⟨z1, z3⟩
    obtain ⟨r1x, lx, erx, _⟩ := head_of r1'
    have h1 := hsh r1x (by rw [erx]; exact List.mem_cons_self)
    refine ⟨rs', rfl, by omega, fun r hr => rw_iff.mpr ?_⟩
    have hrr := hsd.2 r (by simpa [parts] using hr)
    simp only [okR, Bool.and_eq_true, all_iff] at hrr
    obtain ⟨es', rfl, _, _⟩ := filled_iff.mp hrr.1
    have h2 := (hsh _ hr).2
    simp only [parts] at h2
    exact ⟨es', rfl, by omega, by simpa [parts] using hrr.2⟩
theorem jdg_not {ds : List PyData} {d : PyData} (hd : d ∈ ds) (h : okS ds.length d = false) : isJdg (.tuple ds) = false := by
  cases e : isJdg (.tuple ds) with
  | false => rfl
  | true => rw [(jdg_iff.mp e).2.2.1 d hd] at h; cases h
theorem one_len {α : Type} (c : α) : ∀ l : List α, l.Nodup → (∃ s, s ∈ l) → (∀ s ∈ l, s = c) → l.length = 1
  | [], _, ⟨s, hs⟩, _ => by cases hs
  | [x], _, _, _ => rfl
  | x :: y :: l, hn, _, all => by
    have e1 := all x List.mem_cons_self
    have e2 := all y (List.mem_cons_of_mem _ List.mem_cons_self)
    rw [e1, e2] at hn
    simp at hn
theorem okS_not {n : Int} {rs : List PyData} {r : PyData} (hr : r ∈ rs) (h : okR n r = false) : okS n (.tuple rs) = false := by
  cases e : okS n (.tuple rs) with
  | false => rfl
  | true =>
    simp only [okS, Bool.and_eq_true, all_iff] at e
    rw [e.2 r (by simpa [parts] using hr)] at h; cases h
theorem shp_at {rs : List PyData} {c : Nat} {r : PyData} (h : rs[c]? = some r) : (shp (.tuple rs)).take (c + 1) = (shp (.tuple rs)).take c ++ [[(rs.length : Int), ((parts r).length : Int)]] := by
  rw [List.take_add_one]
  congr 1
  simp only [shp, parts, List.getElem?_map, h]; rfl
/-- the shapes as a set: one, exactly if it is a judge -/
theorem set_one {ds : List PyData} {ks L : List (Addr × List Int)} (l1 : 1 ≤ ds.length) (l8 : ds.length ≤ 8) (hok : ∀ d ∈ ds, okS ds.length d = true) (hk : ks.map (·.2) = ds.flatMap shp) (h1 : ∀ p ∈ L, p ∈ ks) (h2 : ∀ p ∈ ks, p.2 ∈ L.map (·.2)) (hn : (L.map (·.2)).Nodup) :
    decide (V.int (L.length : Int) = V.int 1) = isJdg (.tuple ds) := by
  have inks : ∀ s, s ∈ ks.map (·.2) ↔ s ∈ L.map (·.2) := fun s => by
    simp only [List.mem_map]
    exact ⟨fun ⟨p, hp, e⟩ => by have := h2 p hp; rw [e] at this; simpa [List.mem_map] using this, fun ⟨p, hp, e⟩ => ⟨p, h1 p hp, e⟩⟩
  have nonempty : ∃ s, s ∈ L.map (·.2) := by
    obtain ⟨d, l, rfl, _⟩ := head_of l1
    have hs := hok d List.mem_cons_self
    simp only [okS, Bool.and_eq_true] at hs
    obtain ⟨rs, rfl, r1, _⟩ := filled_iff.mp hs.1
    obtain ⟨r, l', rfl, _⟩ := head_of r1
    refine ⟨_, (inks _).mp (by rw [hk]; simp only [List.flatMap_cons, List.mem_append]; exact .inl (by simp only [shp, parts, List.map_cons]; exact List.mem_cons_self))⟩
  obtain ⟨s0, hs0⟩ := nonempty
  cases e : isJdg (.tuple ds) with
  | true =>
    obtain ⟨_, _, _, c, hc⟩ := jdg_iff.mp e
    have all : ∀ s ∈ L.map (·.2), s = c := fun s hs => by
      have := (inks s).mpr hs
      rw [hk] at this
      obtain ⟨d, hd, hs'⟩ := List.mem_flatMap.mp this
      exact hc d hd s hs'
    have len : (L.map (·.2)).length = 1 := one_len c _ hn ⟨s0, hs0⟩ all
    rw [List.length_map] at len
    exact decide_eq_true (by rw [len]; rfl)
  | false =>
    refine decide_eq_false fun z => ?_
    have z1 : L.length = 1 := by injection z with z; omega
    have len : (L.map (·.2)).length = 1 := by rw [List.length_map]; exact z1
    obtain ⟨c, hc⟩ := List.length_eq_one_iff.mp len
    have : isJdg (.tuple ds) = true := jdg_iff.mpr ⟨l1, l8, hok, c, fun d hd s hs => by
      have := (inks s).mp (by rw [hk]; exact List.mem_flatMap.mpr ⟨d, hd, hs⟩)
      rw [hc] at this
      simpa using this⟩
    rw [this] at e; cases e
end LA

namespace LA
open PySem L2
/-! ### judges as data -/
def oD : Option Nat → PyData
  | none => .none
  | some n => .int (n : Int)
def rD (r : Rw) : PyData := .tuple (r.map oD)
def sD (s : Sd) : PyData := .tuple (s.map rD)
def jD (j : Jd) : PyData := .tuple (j.map sD)
section
variable {K : PySem.W.Frag} {p : Addr} {Z : Addr → Prop} {H : Hp}
theorem paired_dq {α : Type} {R : V → α → Prop} {f : α → PyData} (h : ∀ v x, R v x → Dq K p Z H v (f x)) : ∀ {vs : List V} {xs : List α}, Paired R vs xs → DqAll K p Z H vs (xs.map f)
  | _, _, .nil => .nil
  | _, _, .cons r t => .cons (h _ _ r) (paired_dq h t)
theorem entries_dq : ∀ r : Rw, DqAll K p Z H (r.map oV) (r.map oD)
  | [] => .nil
  | none :: r => .cons .non (entries_dq r)
  | some n :: r => .cons (.int _) (entries_dq r)
theorem RowAt.dq {v : V} {r : Rw} (h : RowAt K H v r) : Dq K p Z H v (rD r) := by
  obtain ⟨a, rfl, q⟩ := h
  exact .tup q (entries_dq r)
theorem StAt.dq {v : V} {s : Sd} (h : StAt K H v s) : Dq K p Z H v (sD s) := by
  obtain ⟨a, vs, rfl, q, t⟩ := h
  exact .tup q (paired_dq (fun _ _ x => x.dq) t)
theorem JAt.dq {v : V} {j : Jd} (h : JAt K H v j) : Dq K p Z H v (jD j) := by
  obtain ⟨a, vs, rfl, q, t⟩ := h
  exact .tup q (paired_dq (fun _ _ x => x.dq) t)
end
theorem bds_all {N s e : Nat} : ∀ ds : List PyData, (∀ d ∈ ds, Bd N s e d) → Bds N (ds.length * (s + 2)) e ds
  | [], _ => Bds.nil
  | d :: ds, h => by
    have := Bds.cons (h d List.mem_cons_self) (bds_all ds fun x hx => h x (List.mem_cons_of_mem _ hx))
    refine this.mono (Nat.le_refl _) ?_ (Nat.le_refl _)
    rw [List.length_cons, Nat.succ_mul]; omega
theorem jD_bd {N : Nat} {j : Jd} {nx ny : Nat} (h : IsJ j nx ny) (hN : 64 ≤ N) : Bd N 1600 3 (jD j) := by
  have he : ∀ s ∈ j, ∀ r ∈ s, Bd N 43 1 (rD r) := by
    intro s hs r hr
    obtain ⟨h1, h2⟩ := (h.st s hs).2 r hr
    have := Bd.tup (bds_all (N := N) (s := 8) (e := 0) (r.map oD) (by
      intro d hd
      obtain ⟨o, ho, rfl⟩ := List.mem_map.mp hd
      cases o with
      | none => exact ⟨by simp [IB, oD], by simp [szD, oD], by simp [PyData.depth, oD]⟩
      | some n => exact int_bd _ (by have := h2 n ho; have := h.n8; omega) hN))
    refine this.mono (Nat.le_refl _) ?_ (Nat.le_refl _)
    rw [List.length_map, h1]
    have := h.y4; omega
  have hs : ∀ s ∈ j, Bd N 183 2 (sD s) := by
    intro s hs
    have := Bd.tup (bds_all (N := N) (s := 43) (e := 1) (s.map rD) (by
      intro d hd
      obtain ⟨r, hr, rfl⟩ := List.mem_map.mp hd
      exact he s hs r hr))
    refine this.mono (Nat.le_refl _) ?_ (Nat.le_refl _)
    rw [List.length_map, (h.st s hs).1]
    have := h.x4; omega
  have := Bd.tup (bds_all (N := N) (s := 183) (e := 2) (j.map sD) (by
    intro d hd
    obtain ⟨s, hs', rfl⟩ := List.mem_map.mp hd
    exact hs s hs'))
  refine this.mono (Nat.le_refl _) ?_ (Nat.le_refl _)
  rw [List.length_map]
  have := h.n8; omega
theorem tnew {K : PySem.W.Frag} {p q : Addr} {Z : Addr → Prop} {H : Hp} {xs : List V} {ds : List PyData} (g : H q = none) (h : DqAll K p Z H xs ds) : Dq K p Z (upd H q (.tup xs)) (.ref q) (.tuple ds) :=
  .tup (SqT.of upd_same) (h.same ((Same.refl H).new g))
/-- a list of any values that is itself one of Z -/
theorem VL.push {K : PySem.W.Frag} {p : Addr} {N S E : Nat} {H : Hp} {l : Addr} {vs : List V} {ds : List PyData} {v : V} {d : PyData} (h : VL K p (· = l) N S E H l vs ds) (hv : Dq K p (· = l) H v d) (hb : Bd N S E d) : VL K p (· = l) N S E (upd H l (.lst (vs ++ [v]))) l (vs ++ [v]) (ds ++ [d]) :=
  ⟨upd_same, h.ne, DqAll.own (Z := (· = l)) h.at' rfl _ _ (h.dq.app (.cons hv .nil)), fun x hx => (List.mem_append.mp hx).elim (h.bd x) fun z => by
    have : x = d := by simpa using z
    rw [this]; exact hb⟩
theorem VL.trk {K : PySem.W.Frag} {p : Addr} {Z : Addr → Prop} {N S E : Nat} {H : Hp} {l : Addr} {vs : List V} {ds : List PyData} (h : VL K p Z N S E H l vs ds) : Trk (· = l) H := fun b hb e => by
  rw [show b = l from hb, h.at'] at e; cases e
theorem VL.weak {K : PySem.W.Frag} {p : Addr} {Z Z' : Addr → Prop} {N S E : Nat} {H : Hp} {l : Addr} {vs : List V} {ds : List PyData} (h : VL K p Z N S E H l vs ds) (f : ∀ a, Z' a → Z a) : VL K p Z' N S E H l vs ds :=
  ⟨h.at', h.ne, DqAll.weak f _ _ h.dq, h.bd⟩
end LA

namespace LA
open PySem L2
open C8 (Cal pe_c)
def topS (i : Nat) : Stmt := PySem.Challenge.pw_leastahead_k01_judges_of_any_value.main.body.getD i (.Pass ⟨0, 0, 0, 0⟩)
end LA

namespace LA
open PySem L2
theorem prime_at (t : Int) : ∃ q : Int, atI [V.int 2147483647, .int 2147483629, .int 2147483587, .int 2147483579, .int 2147483563, .int 2147483549] (t % 6) = some (.int q) ∧ 0 < q ∧ q < 2147483648 := by
  obtain ⟨r, er, hr⟩ := mod_nat (a := t) (m := 6) (by decide)
  rw [er]
  have : r < 6 := by omega
  match r, this with
  | 0, _ => exact ⟨_, atI_nat (j := 0) rfl, by decide, by decide⟩
  | 1, _ => exact ⟨_, atI_nat (j := 1) rfl, by decide, by decide⟩
  | 2, _ => exact ⟨_, atI_nat (j := 2) rfl, by decide, by decide⟩
  | 3, _ => exact ⟨_, atI_nat (j := 3) rfl, by decide, by decide⟩
  | 4, _ => exact ⟨_, atI_nat (j := 4) rfl, by decide, by decide⟩
  | 5, _ => exact ⟨_, atI_nat (j := 5) rfl, by decide, by decide⟩
theorem sq_bd {t : Int} (h0 : 0 ≤ t) (h1 : t ≤ 1000000) : 0 ≤ 65537 * t * t ∧ 65537 * t * t ≤ 65537000000000000 := by
  have h2 : t * t ≤ 1000000 * 1000000 := Int.mul_le_mul h1 h1 h0 (by decide)
  have h3 : 0 ≤ t * t := Int.mul_nonneg h0 h0
  have e : 65537 * t * t = 65537 * (t * t) := Int.mul_assoc _ _ _
  omega
section
variable {P : Program} {w : World} {K : PySem.W.Frag} {mg : Str → Option Value} {base : Heap}
abbrev s_take : Stmt := topS 14
abbrev N_take : List Str := ["_law_pot_here", "_law_many", "_law_digit", "_law_turn", "_law_prime", "_law_mixed_here"]
theorem sc_take : FnScope N_take ["_law_pot_here", "_law_many"] (defScope s_take) := ⟨rfl, rfl, rfl, by decide +kernel, rfl, by decide +kernel, by decide +kernel⟩
theorem ok_take {f : Addr} {fd : FuncData} (F : Fun K "_law_take" "_law_take" s_take f fd) : FnOk P w K mg base CX0 1 f fd ["_law_pot_here", "_law_many"] spTake := by
  refine F.ok sc_take (fun vs H Q E h => ?_) (fun cdv A outer s H vs Q E hr h => ?_)
  · obtain ⟨p, m, n, rfl, _⟩ := h
    rfl
  · obtain ⟨p, m, n, rfl, hm0, hm1, hP, hn, k⟩ := h
    obtain ⟨a, b, c, hp, ha, hb, hb2, hc, hc2⟩ := hP
    refine ⟨_, (pss_cons (ps_if (pt_cmpR op_gt (pe_ix (ixLK K) (pv 0) pe_int (fun _ _ => rfl)) pe_int (nomark _))
(pss_cons (ps_set (i := 2) sc_take.nd rfl (Or.inl rfl) (pe_op op_mod (pe_ix (ixLK K) (pv 0) pe_int (fun _ _ => rfl)) (pv 1)))
(pss_cons (ps_asg (pe_op op_fdiv (pe_ix (ixLK K) (pv 0) pe_int (fun _ _ => rfl)) (pv 1)) (pg_sub (pv 0) pe_int set_list))
(pss_one (ps_ret (pv 2)))))
pss_nil)
(pss_cons (ps_asg (pe_op op_add (pe_ix (ixLK K) (pv 0) pe_int (fun _ _ => rfl)) pe_int) (pg_sub (pv 0) pe_int set_list))
(pss_cons (ps_set (i := 3) sc_take.nd rfl (Or.inl rfl) (pe_ix (ixLK K) (pv 0) pe_int (fun _ _ => rfl)))
(pss_cons (ps_set (i := 4) sc_take.nd rfl (Or.inl rfl) (pe_ix (ixLK K) (pe_lst (pa_cons pe_int (pa_cons pe_int (pa_cons pe_int (pa_cons pe_int (pa_cons pe_int (pa_cons pe_int pa_nil))))))) (pe_op op_mod (pv 3) pe_int) (fun _ _ => rfl)))
(pss_cons (ps_set (i := 5) sc_take.nd rfl (Or.inl rfl) (pe_op op_mod (pe_op op_pow (pe_op op_add (pe_op op_add (pe_ix (ixLK K) (pv 0) pe_int (fun _ _ => rfl)) (pe_op op_mul (pe_op op_mul pe_int (pv 3)) (pv 3))) (pe_op op_mul pe_int (pv 3))) pe_int) (pv 4)))
(pss_one (ps_ret (pe_op op_mod (pe_op op_fdiv (pe_op op_mod (pe_op op_mul (pv 5) (pe_op op_add (pe_op op_mod (pv 5) pe_int) (pe_op op_mul pe_int (pv 3)))) pe_int) pe_int) (pv 1))))))))), ?_⟩
    refine ⟨_, rfl, p, _, _, _, rfl, rfl, SqL.of hp, (at3 _ _ _).1, _, _, rfl, rfl, _, rfl, ?_⟩
    refine ite2 (fun hgt => ?_) (fun hgt => ?_)
    · refine ⟨_, rfl, p, _, _, _, rfl, rfl, SqL.of hp, (at3 _ _ _).1, _, rfl, _, _, rfl, rfl, hm0, ?_⟩
      refine ⟨_, rfl, p, _, _, _, rfl, rfl, SqL.of hp, (at3 _ _ _).1, _, rfl, _, _, rfl, rfl, ⟨hm0, hm1⟩, ?_⟩
      refine ⟨_, rfl, p, _, _, 0, rfl, rfl, hp, rfl, ?_⟩
      refine ⟨_, rfl, ?_⟩
      obtain ⟨r, er, hr2⟩ := mod_nat (a := a) hm0
      show Q (.int (a % m)) _
      rw [er]
      exact k _ r (SameX.at (SameX.refl _ _)) ⟨a / m, b, c, upd_same, Int.ediv_nonneg ha (by omega), hb, hb2, hc, by omega⟩ hr2
    · refine ⟨_, rfl, p, _, _, _, rfl, rfl, SqL.of hp, (at3 _ _ _).2.2, _, _, rfl, rfl, _, rfl, p, _, _, 2, rfl, rfl, hp, rfl, ?_⟩
      refine ⟨_, rfl, p, _, _, _, rfl, rfl, SqL.of upd_same, (at3 _ _ _).2.2, ?_⟩
      refine ⟨by decide, fun l hl => ?_⟩
      obtain ⟨q, hq, hq0, hq1⟩ := prime_at (c + 1)
      have nlp : p ≠ l := fun e => by rw [← e, upd_same] at hl; cases hl
      refine ⟨_, rfl, _, _, rfl, rfl, (by show (0 : Int) < 6; decide), l, _, _, _, rfl, rfl, SqL.of upd_same, hq, ?_⟩
      refine ⟨_, rfl, p, _, _, _, rfl, rfl, SqL.of ((upd_ne nlp).trans upd_same), (at3 _ _ _).2.1, _, rfl, _, _, rfl, rfl, .inl ⟨by decide, by decide⟩, _, rfl, _, _, rfl, rfl, .inr ⟨by omega, by omega⟩, _, _, rfl, rfl, _, rfl, _, _, rfl, rfl, .inl ⟨by decide, by decide⟩, _, _, rfl, rfl, _, _, rfl, rfl, ⟨by decide, by decide, ?_⟩, _, rfl, _, _, rfl, rfl, hq0, ?_⟩
      · have hs := sq_bd (t := c + 1) (by omega) (by omega)
        show (b + 65537 * (c + 1) * (c + 1) + 31 * (c + 1)).natAbs < 2 ^ 64
        omega
      · generalize hx : (b + 65537 * (c + 1) * (c + 1) + 31 * (c + 1)) ^ (3 : Int).toNat % q = x
        have hx0 : 0 ≤ x := by rw [← hx]; exact Int.emod_nonneg _ (by omega)
        have hx1 : x < 2147483648 := by have := Int.emod_lt_of_pos ((b + 65537 * (c + 1) * (c + 1) + 31 * (c + 1)) ^ (3 : Int).toNat) hq0; omega
        refine ⟨_, rfl, _, rfl, _, _, rfl, rfl, (by show (0 : Int) < 10007; decide), _, rfl, _, _, rfl, rfl, .inl ⟨by decide, by decide⟩, _, _, rfl, rfl, _, _, rfl, rfl, .inl ⟨by omega, by omega⟩, _, _, rfl, rfl, (by show (0 : Int) < 2305843009213693907; decide), _, _, rfl, rfl, ⟨by decide, by decide⟩, _, rfl, _, _, rfl, rfl, hm0, ?_⟩
        refine (fun y => ?_ : ∀ y : Int, Q (.int (y % m)) _) _
        obtain ⟨r, er, hr2⟩ := mod_nat (a := y) hm0
        rw [er]
        refine k _ r (SameX.new (SameX.at (SameX.refl _ _)) hl) ⟨a, b, c + 1, (upd_ne nlp).trans upd_same, ha, hb, hb2, by omega, by omega⟩ hr2
end
end LA

namespace LA
open PySem L2
open C8 (Cal pe_c)
theorem ten300 : PySem.intText? (("1" : Str) ++ Txt.mul "0" 300) = some (10 ^ 300) ∧ (("1" : Str) ++ Txt.mul "0" 300).length ≤ 640 := by decide +kernel
theorem mulOk300 : MulOk "0" 300 := by unfold MulOk; decide +kernel
theorem str300 : ("1" : Str).length + (Txt.mul "0" 300).length ≤ sizeLine := by decide +kernel
section
variable {P : Program} {w : World} {K : PySem.W.Frag} {mg : Str → Option Value} {base : Heap}
abbrev s_of : Stmt := topS 15
abbrev N_of : List Str := ["_law_pot_here", "_law_some"]
theorem sc_of : FnScope N_of ["_law_pot_here", "_law_some"] (defScope s_of) := ⟨rfl, rfl, rfl, by decide +kernel, rfl, by decide +kernel, by decide +kernel⟩
theorem ok_of {f : Addr} {fd : FuncData} (F : Fun K "_law_of" "_law_of" s_of f fd) (T : Bt mg) (c_take : Cal P w K mg base 1 "_law_take" spTake []) : FnOk P w K mg base CX0 2 f fd ["_law_pot_here", "_law_some"] spOf := by
  refine F.ok sc_of (fun vs H Q E h => ?_) (fun cdv A outer s H vs Q E hr h => ?_)
  · obtain ⟨p, l, xs, n, rfl, _⟩ := h
    rfl
  · obtain ⟨p, l, xs, n, rfl, hl, nlp, h0, h1, hP, hn, k⟩ := h
    refine ⟨_, (pss_one (ps_ret (pe_ix (ixLK K) (pv 1) (pe_c c_take hr (by decide) rfl (pa_cons (pv 0) (pa_cons (pe_callB (lenK K) (by rfl) T.len PySem.boot_len (pa_cons (pv 1) pa_nil)) pa_nil))) (fun _ _ => rfl)))), ?_⟩
    refine ⟨_, rfl, _, rfl, _, rfl, l, xs, rfl, .inl (SqL.of hl), p, _, n, rfl, by omega, by omega, hP, hn, fun H1 r s1 P1 hr1 => ?_⟩
    have hr2 : r < xs.length := by omega
    refine ⟨l, xs, _, xs[r], rfl, rfl, SqL.of (s1 l _ hl nlp), atI_nat (by simp [hr2]), ?_⟩
    exact k H1 r _ s1 P1 (by simp [hr2])
abbrev s_mixed : Stmt := topS 16
abbrev N_mixed : List Str := ["_law_pot_here", "_law_some", "_law_left", "_law_found"]
theorem sc_mixed : FnScope N_mixed ["_law_pot_here", "_law_some"] (defScope s_mixed) := ⟨rfl, rfl, rfl, by decide +kernel, rfl, by decide +kernel, by decide +kernel⟩
theorem dp_ints {K : PySem.W.Frag} {H : Hp} : ∀ ns : List Int, DpAll K H (ns.map V.int) (ns.map PyData.int)
  | [] => .nil
  | n :: ns => .cons (.int n) (dp_ints ns)
theorem lay_ints : ∀ ns : List Int, PyData.canLayAll0 (ns.map PyData.int) = true ∧ PyData.depthAll (ns.map PyData.int) ≤ 0
  | [] => by simp [PyData.canLayAll0, PyData.depthAll]
  | n :: ns => by have h := lay_ints ns; simp [PyData.canLayAll0, PyData.canLay0, PyData.depthAll, PyData.depth, h.1, Nat.le_zero.mp h.2]
theorem shaped_ints (ns : List Int) : SeqAt.shaped (.list (ns.map PyData.int)) = true := by
  have h := lay_ints ns
  show (PyData.canLay0 (.list (ns.map PyData.int)) && decide (PyData.depth (.list (ns.map PyData.int)) ≤ 64)) = true
  simp [PyData.canLay0, PyData.depth, h.1, Nat.le_zero.mp h.2]
theorem eqv_nil (ns : List Int) : PyData.eqv (.list (ns.map PyData.int)) (.list []) = decide (ns = []) := by
  cases ns <;> simp [PyData.eqv, PyData.eqvAll]
theorem ok_mixed {f : Addr} {fd : FuncData} (F : Fun K "_law_mixed" "_law_mixed" s_mixed f fd) (T : Bt mg) (c_take : Cal P w K mg base 1 "_law_take" spTake []) : FnOk P w K mg base CX0 2 f fd ["_law_pot_here", "_law_some"] (spMixed K) := by
  refine F.ok sc_mixed (fun vs H Q E h => ?_) (fun cdv A outer s H vs Q E hr h => ?_)
  · obtain ⟨p, l, xs, n, rfl, _⟩ := h
    rfl
  · obtain ⟨p, l, ns, n, rfl, hl, nlp, h1, hP, hn, k⟩ := h
    have hu64 := hr.units
    refine ⟨_, (pss_cons (ps_par (i := 2) (j := 3) rfl sc_mixed.nd rfl rfl (by decide) rfl rfl (pa_cons (pe_callTy (lstK K) (by rfl) T.list (by decide +kernel) (pa_cons (pv 1) pa_nil)) (pa_cons (pe_lst pa_nil) pa_nil)) rfl)
(pss_cons (ps_while PassesOwn.never (pt_cmpR (op_neD hu64) (pv 2) (pe_lst pa_nil) (nomark _))
(pss_one (ps_expr (pe_bm PySem.F.plainAttrs_list PySem.F.slot_list_append PySem.F.type_list_append mt_append (pv 3) (pa_cons (pe_bm PySem.F.plainAttrs_list PySem.F.slot_list_pop PySem.F.type_list_pop mt_popAt (pv 2) (pa_cons (pe_c c_take hr (by decide) rfl (pa_cons (pv 0) (pa_cons (pe_callB (lenK K) (by rfl) T.len PySem.boot_len (pa_cons (pv 2) pa_nil)) pa_nil))) pa_nil)) pa_nil)))))
(pss_one (ps_ret (pv 3))))), ?_⟩
    refine ⟨_, rfl, l, _, rfl, .inl (SqL.of hl), fun a ha => ?_⟩
    refine ⟨by decide, fun b hb => ⟨_, _, rfl, ?_⟩⟩
    have nab : a ≠ b := fun e => by rw [← e, upd_same] at hb; cases hb
    have hb0 : H b = none := by rw [← hb, upd_ne (Ne.symm nab)]
    have nap : a ≠ p := hP.ne ha
    have nbp : b ≠ p := hP.ne hb0
    refine while_by (fun σ H' => ∃ ls fs : List Int, σ = [some (.ref p), some (.ref l), some (.ref a), some (.ref b)] ∧ H' a = some (.lst (ls.map V.int)) ∧ H' b = some (.lst (fs.map V.int)) ∧ (fs ++ ls).Perm ns ∧ SameX p H H' ∧ PotAt H' p (n + fs.length))
      (fun σ H' => match H' a with | some (.lst xs) => xs.length | _ => 0) ?_ ?_ ?_
    · refine ⟨ns, [], rfl, by rw [upd_ne nab, upd_same], upd_same, by simp, ?_, (hP.new nap).new nbp⟩
      exact ((SameX.refl p H).new ha).new hb
    · rintro σ H' ⟨ls, fs, rfl, hla, hlb, hpm, hsx, hpt⟩
      refine ⟨_, rfl, by decide, fun c hc => ?_⟩
      have nca : a ≠ c := ne_of_none hla hc
      refine ⟨_, _, .lst (SqL.of ((upd_ne nca).trans hla)) (dp_ints ls), .lst (SqL.of upd_same) .nil, shaped_ints ls, by decide, _, rfl, ?_⟩
      rw [eqv_nil]
      by_cases hls : ls = []
      · rw [decide_eq_true hls]
        refine iteF ?_
        refine ⟨_, rfl, ?_⟩
        subst hls
        have ncb : b ≠ c := ne_of_none hlb hc
        have ncp : c ≠ p := hpt.ne hc
        have hlen : fs.length = ns.length := by have := hpm.length_eq; simpa using this
        refine k _ b fs (hsx.new hc) (by rw [← hlen]; exact hpt.new ncp) hb0 ((upd_ne ncb).trans hlb) (by simpa using hpm)
      · rw [decide_eq_false hls]
        refine iteT ?_
        have hpos : 0 < ls.length := List.length_pos_iff.mpr hls
        have ncb : b ≠ c := ne_of_none hlb hc
        have ncp : c ≠ p := hpt.ne hc
        have hlen : fs.length + ls.length = ns.length := by have := hpm.length_eq; simpa using this
        have hla1 := (upd_ne (o := HO.lst []) nca).trans hla
        have hlb1 := (upd_ne (o := HO.lst []) ncb).trans hlb
        refine ⟨_, rfl, .inl ⟨rfl, _, SqL.of hlb1⟩, _, rfl, .inl ⟨rfl, _, SqL.of hla1⟩, _, rfl, _, rfl, a, _, rfl, .inl (SqL.of hla1), p, _, n + fs.length, rfl, by simp; omega, by simp; omega, hpt.new ncp, by omega, fun H1 r s1 P1 hr1 => ?_⟩
        have hr2 : r < ls.length := by simpa using hr1
        have hla2 := s1 a _ hla1 nap
        have hlb2 := s1 b _ hlb1 nbp
        have hsm : ls.length ≤ 1000 := by omega
        refine ⟨a, _, _, r, .int ls[r], rfl, rfl, hla2, by omega, by omega, seqIx (by simpa using hr2), by simp [hr2], ?_⟩
        refine ⟨b, _, _, rfl, rfl, (upd_ne (Ne.symm nab)).trans hlb2, by simp; exact Nat.lt_of_le_of_lt (show fs.length ≤ 1000 by omega) (by decide), ?_⟩
        have e1 : (upd (upd H1 a (HO.lst ((ls.map V.int).eraseIdx r))) b (HO.lst (fs.map V.int ++ [V.int ls[r]]))) a = some (HO.lst ((ls.eraseIdx r).map V.int)) := by
          rw [upd_ne nab, upd_same, map_erase]
        refine ⟨⟨ls.eraseIdx r, fs ++ [ls[r]], rfl, e1, by rw [upd_same]; simp, ?_, ?_, ?_⟩, ?_⟩
        · rw [List.append_assoc]
          exact ((perm_erase ls r hr2).append_left fs).trans hpm
        · exact (((hsx.new hc).trans s1).own ha).own hb0
        · have := (P1.new (o := HO.lst ((ls.map V.int).eraseIdx r)) nap).new (o := HO.lst (fs.map V.int ++ [V.int ls[r]])) nbp
          simpa [Nat.add_assoc] using this
        · rw [e1, hla]
          simp [List.length_eraseIdx, hr2]; omega
    · intro σ H Q Q' hq h
      obtain ⟨v, e, h1, h2⟩ := h
      refine ⟨v, e, h1, fun p hp => ?_⟩
      obtain ⟨d, e', hd, he, sd, se, c, hc, q⟩ := h2 p hp
      exact ⟨d, e', hd, he, sd, se, c, hc, hq _ _ q⟩
end
end LA

namespace LA
open PySem L2
open C8 (Cal pe_c)
theorem b01 (b : Bool) : 0 ≤ (if b = true then (1 : Int) else 0) ∧ (if b = true then (1 : Int) else 0) ≤ 1 := by cases b <;> decide
theorem abs_nat (i : Int) : (if i < 0 then -i else i) = (i.natAbs : Int) := by split <;> omega
section
variable {P : Program} {w : World} {K : PySem.W.Frag} {mg : Str → Option Value} {base : Heap}
abbrev s_pot : Stmt := topS 13
abbrev N_pot : List Str := ["_law_script", "_law_k", "_law_cell", "_law_own"]
theorem sc_pot : FnScope N_pot ["_law_script", "_law_k"] (defScope s_pot) := ⟨rfl, rfl, rfl, by decide +kernel, rfl, by decide +kernel, by decide +kernel⟩
theorem ok_pot {f : Addr} {fd : FuncData} (F : Fun K "_law_pot" "_law_pot" s_pot f fd) (T : Bt mg) : FnOk P w K mg base CX0 1 f fd ["_law_script", "_law_k"] (spPot K) := by
  refine F.ok sc_pot (fun vs H Q E h => ?_) (fun cdv A outer s H vs Q E hr h => ?_)
  · obtain ⟨a, ns, k, rfl, _⟩ := h
    rfl
  · obtain ⟨a, ns, k, rfl, hS, hk, q⟩ := h
    refine ⟨_, (C8.pss_cut (ps_set (i := 2) sc_pot.nd rfl (Or.inl rfl) (pe_ifExp (pt_cmpR op_lt (pv 1) (pe_callB (lenK K) (by rfl) T.len PySem.boot_len (pa_cons (pv 0) pa_nil)) (nomark _)) (pe_ix (ixLK K) (pv 0) (pv 1) (fun _ _ => rfl)) (pe_op op_add (pe_op op_mul pe_int (pv 1)) pe_int)))
(pss_cons (ps_set (i := 3) sc_pot.nd rfl (Or.inl rfl) (pe_op op_mul (pe_op op_mod (pe_callB call_abs (by rfl) T.abs (by decide +kernel) (pa_cons (pv 2) pa_nil)) (pe_callTy call_int_str (by rfl) T.int (by decide +kernel) (pa_cons (pe_op op_add_str pe_str (pe_op op_mul_str pe_str pe_int)) pa_nil))) (pe_callTy call_int1 (by rfl) T.int (by decide +kernel) (pa_cons (pe_cmpR op_ge (pe_callB call_abs (by rfl) T.abs (by decide +kernel) (pa_cons (pv 2) pa_nil)) (pe_op op_pow pe_int pe_int) (nomark _)) pa_nil))))
(pss_one (ps_ret (pe_lst (pa_cons (pv 3) (pa_cons (pe_op op_mod (pe_op op_mul (pe_op op_add (pe_op op_add (pe_op op_mod (pv 2) pe_int) (pe_op op_mul (pe_op op_mul pe_int (pv 1)) (pv 1))) pe_int) pe_int) pe_int) (pa_cons pe_int pa_nil)))))))), ?_⟩
    refine ⟨fun σ' H' => H' = H ∧ ∃ cell : Int, σ' = [some (.ref a), some (.int (k : Int)), some (.int cell), none], ?_, ?_⟩
    · refine ⟨_, rfl, _, rfl, a, _, rfl, .inl hS, _, _, rfl, rfl, _, rfl, ?_⟩
      refine ite2 (fun hlt => ?_) (fun hlt => ?_)
      · have hlt2 : k < ns.length := by have := of_decide_eq_true hlt; simpa using this
        exact ⟨_, rfl, _, rfl, a, _, _, .int ns[k], rfl, rfl, hS, atI_nat (by simp [hlt2]), rfl, _, rfl⟩
      · exact ⟨_, rfl, _, _, rfl, rfl, .inl ⟨by decide, by decide⟩, _, _, rfl, rfl, rfl, _, rfl⟩
    · rintro σ' H' ⟨rfl, cell, rfl⟩
      refine ⟨_, rfl, _, rfl, _, _, rfl, rfl, mulOk300, _, _, rfl, rfl, str300, _, _, rfl, ten300.1, ten300.2, _, _, rfl, rfl, (by show (0 : Int) < 10 ^ 300; decide), ?_⟩
      refine ⟨_, rfl, _, rfl, _, _, rfl, rfl, ⟨by decide, by decide, by decide⟩, _, _, rfl, rfl, .inr ⟨_, rfl, _, _, rfl, rfl, .inr ⟨Int.lt_of_lt_of_le (by decide) (b01 _).1, Int.lt_of_le_of_lt (b01 _).2 (by decide)⟩, ?_⟩⟩
      refine ⟨_, rfl, _, rfl, _, _, rfl, rfl, (by show (0 : Int) < 2305843009213693951; decide), _, rfl, _, _, rfl, rfl, .inl ⟨by decide, by decide⟩, _, rfl, _, _, rfl, rfl, .inr ⟨by omega, by omega⟩, _, _, rfl, rfl, _, _, rfl, rfl, _, _, rfl, rfl, .inr ⟨by decide, by decide⟩, _, _, rfl, rfl, (by show (0 : Int) < 2305843009213693951; decide), (by show 3 ≤ sizeLine; decide), fun p hp => ?_⟩
      refine q _ p (Same.new (Same.refl _) hp) hp ⟨_, _, _, upd_same, ?_, ?_, ?_, by decide, by decide⟩
      · refine Int.mul_nonneg (Int.emod_nonneg _ (by decide)) (b01 _).1
      · exact Int.emod_nonneg _ (by decide)
      · exact Int.emod_lt_of_pos _ (by decide)
end
end LA

namespace LA
open PySem L2
open C8 (Cal pe_c)
section
variable {P : Program} {w : World} {K : PySem.W.Frag} {mg : Str → Option Value} {base : Heap}
abbrev s_judge : Stmt := topS 17
abbrev N_judge : List Str := ["_law_pot_here", "_law_most", "_law_inputs_most", "_law_outputs_most", "_law_count", "_law_xs", "_law_ys", "_law_share", "_law_found", "_law_state", "_law_rows", "_law_x", "_law_row", "_law_y", "_law_refused"]
theorem sc_judge : FnScope N_judge ["_law_pot_here", "_law_most", "_law_inputs_most", "_law_outputs_most"] (defScope s_judge) := ⟨rfl, rfl, rfl, by decide +kernel, rfl, by decide +kernel, by decide +kernel⟩
theorem ok_judge {f : Addr} {fd : FuncData} (F : Fun K "_law_judge" "_law_judge" s_judge f fd) (T : Bt mg) (c_take : Cal P w K mg base 1 "_law_take" spTake []) (c_of : Cal P w K mg base 2 "_law_of" spOf []) : FnOk P w K mg base CX0 3 f fd ["_law_pot_here", "_law_most", "_law_inputs_most", "_law_outputs_most"] (spJudge K) := by
  refine F.ok sc_judge (fun vs H Q E h => ?_) (fun cdv A outer s H vs Q E hr h => ?_)
  · obtain ⟨p, m1, m2, m3, n, rfl, _⟩ := h
    rfl
  · obtain ⟨p, m1, m2, m3, n, rfl, a1, a2, b1, b2, c1, c2, hP, hn, k⟩ := h
    refine ⟨_, (pss_cons (ps_par3 (i := 4) (j := 5) (l := 6) rfl sc_judge.nd rfl rfl rfl (by decide) (by decide) (by decide) rfl rfl rfl (pa_cons (pe_op op_add pe_int (pe_c c_take hr (by decide) rfl (pa_cons (pv 0) (pa_cons (pv 1) pa_nil)))) (pa_cons (pe_op op_add pe_int (pe_c c_take hr (by decide) rfl (pa_cons (pv 0) (pa_cons (pv 2) pa_nil)))) (pa_cons (pe_op op_add pe_int (pe_c c_take hr (by decide) rfl (pa_cons (pv 0) (pa_cons (pv 3) pa_nil)))) pa_nil))) rfl)
(pss_cons (ps_par (i := 7) (j := 8) rfl sc_judge.nd rfl rfl (by decide) rfl rfl (pa_cons (pe_c c_of hr (by decide) rfl (pa_cons (pv 0) (pa_cons (pe_lst (pa_cons pe_int (pa_cons pe_int (pa_cons pe_int (pa_cons pe_int (pa_cons pe_int pa_nil)))))) pa_nil))) (pa_cons (pe_lst pa_nil) pa_nil)) rfl)
(pss_cons (ps_for PassesOwn.never rfl (pi_range1 (by rfl) T.range (pa_cons (pv 4) pa_nil)) (pg_name (i := 9) sc_judge.nd rfl (Or.inl rfl))
(pss_cons (ps_set (i := 10) sc_judge.nd rfl (Or.inl rfl) (pe_lst pa_nil))
(pss_cons (ps_for PassesOwn.never rfl (pi_range1 (by rfl) T.range (pa_cons (pv 5) pa_nil)) (pg_name (i := 11) sc_judge.nd rfl (Or.inl rfl))
(pss_cons (ps_set (i := 12) sc_judge.nd rfl (Or.inl rfl) (pe_lst pa_nil))
(pss_cons (ps_for PassesOwn.never rfl (pi_range1 (by rfl) T.range (pa_cons (pv 6) pa_nil)) (pg_name (i := 13) sc_judge.nd rfl (Or.inl rfl))
(pss_cons (ps_set (i := 14) sc_judge.nd rfl (Or.inl rfl) (pe_cmpR op_eq (pe_c c_take hr (by decide) rfl (pa_cons (pv 0) (pa_cons (pv 7) pa_nil))) pe_int (nomark _)))
(pss_one (ps_expr (pe_bm PySem.F.plainAttrs_list PySem.F.slot_list_append PySem.F.type_list_append mt_append (pv 12) (pa_cons (pe_ifExp (pt_val (pv 14)) pe_non (pe_c c_take hr (by decide) rfl (pa_cons (pv 0) (pa_cons (pv 4) pa_nil)))) pa_nil))))))
(pss_one (ps_expr (pe_bm PySem.F.plainAttrs_list PySem.F.slot_list_append PySem.F.type_list_append mt_append (pv 10) (pa_cons (pe_callTy (tupK K) (by rfl) T.tuple (by decide +kernel) (pa_cons (pv 12) pa_nil)) pa_nil)))))))
(pss_one (ps_expr (pe_bm PySem.F.plainAttrs_list PySem.F.slot_list_append PySem.F.type_list_append mt_append (pv 8) (pa_cons (pe_callTy (tupK K) (by rfl) T.tuple (by decide +kernel) (pa_cons (pv 10) pa_nil)) pa_nil)))))))
(pss_one (ps_ret (pe_callTy (tupK K) (by rfl) T.tuple (by decide +kernel) (pa_cons (pv 8) pa_nil))))))), ?_⟩
    refine ⟨_, rfl, _, rfl, p, m1, n, rfl, by omega, by omega, hP, by omega, fun H1 r1 s1 P1 q1 => ⟨_, _, rfl, rfl, ?_⟩⟩
    refine ⟨_, rfl, _, rfl, p, m2, n + 1, rfl, by omega, by omega, P1, by omega, fun H2 r2 s2 P2 q2 => ⟨_, _, rfl, rfl, ?_⟩⟩
    refine ⟨_, rfl, _, rfl, p, m3, n + 2, rfl, by omega, by omega, P2, by omega, fun H3 r3 s3 P3 q3 => ⟨_, _, rfl, rfl, _, _, _, rfl, ?_⟩⟩
    refine ⟨_, rfl, by decide, fun l hl => ?_⟩
    have nlp := P3.ne hl
    refine ⟨p, l, _, n + 3, rfl, upd_same, nlp, by decide, by decide, P3.new nlp, by omega, fun H4 i4 v4 s4 P4 e4 => ?_⟩
    refine ⟨by decide, fun fl hfl => ⟨_, _, rfl, ?_⟩⟩
    obtain ⟨sh, rfl, hsh0, hsh1⟩ : ∃ sh : Int, v4 = .int sh ∧ 0 < sh ∧ sh < 100 := by
      match i4, e4 with
      | 0, e => simp at e; exact ⟨_, e.symm, by decide, by decide⟩
      | 1, e => simp at e; exact ⟨_, e.symm, by decide, by decide⟩
      | 2, e => simp at e; exact ⟨_, e.symm, by decide, by decide⟩
      | 3, e => simp at e; exact ⟨_, e.symm, by decide, by decide⟩
      | 4, e => simp at e; exact ⟨_, e.symm, by decide, by decide⟩
      | i + 5, e => simp at e
    have S4 : SameX p H H4 := (((s1.trans s2).trans s3).new hl).trans s4
    have hfl0 : H fl = none := S4.free P4 hfl
    have nflp : fl ≠ p := P4.ne hfl
    -- the states
    refine ⟨_, rfl, (1 + (r1 : Int)), rfl, by omega, by omega, for_range (lo := 0) (fun i σ H' => ∃ (v9 v10 v11 v12 v13 v14 : Option V) (vs : List V) (j : Jd),
        σ = [some (.ref p), some (.int m1), some (.int m2), some (.int m3), some (.int (1 + r1)), some (.int (1 + r2)), some (.int (1 + r3)), some (.int sh), some (.ref fl), v9, v10, v11, v12, v13, v14] ∧
        H' fl = some (.lst vs) ∧ Paired (StAt K H') vs j ∧ j.length = i ∧ (∀ s ∈ j, StOk (1 + r2) (1 + r3) (1 + r1) s) ∧ SameX p H H' ∧ PotAt H' p (n + 4 + i * 32))
      ⟨none, none, none, none, none, none, [], [], rfl, upd_same, .nil, rfl, by simp, S4.new hfl, (P4.new nflp).mono (by omega)⟩ ?_ ?_⟩
    · rintro i σ H5 hi ⟨v9, v10, v11, v12, v13, v14, vs, j, rfl, h5, hpj, hjl, hjs, S5, P5⟩
      refine ⟨by decide, fun rl hrl => ?_⟩
      have nrlp : rl ≠ p := P5.ne hrl
      have hfr : fl ≠ rl := ne_of_none h5 hrl
      refine ⟨_, rfl, (1 + (r2 : Int)), rfl, by omega, by omega, for_range (lo := 0) (fun i2 σ H' => ∃ (v11 v12 v13 v14 : Option V) (ws : List V) (sd : Sd),
          σ = [some (.ref p), some (.int m1), some (.int m2), some (.int m3), some (.int (1 + r1)), some (.int (1 + r2)), some (.int (1 + r3)), some (.int sh), some (.ref fl), some (.int (0 + i)), some (.ref rl), v11, v12, v13, v14] ∧
          H' rl = some (.lst ws) ∧ Paired (RowAt K H') ws sd ∧ sd.length = i2 ∧ (∀ r ∈ sd, r.length = 1 + r3 ∧ ∀ m, some m ∈ r → m < 1 + r1) ∧ SameX p H5 H' ∧ PotAt H' p (n + 4 + i * 32 + i2 * 8))
        ⟨v11, v12, v13, v14, [], [], rfl, upd_same, .nil, rfl, by simp, (SameX.refl p H5).new hrl, (P5.new nrlp).mono (by omega)⟩ ?_ ?_⟩
      · rintro i2 σ H6 hi2 ⟨v11, v12, v13, v14, ws, sd, rfl, h6, hps, hsl, hss, S6, P6⟩
        refine ⟨by decide, fun ol hol => ?_⟩
        have nolp : ol ≠ p := P6.ne hol
        have hro : rl ≠ ol := ne_of_none h6 hol
        refine ⟨_, rfl, (1 + (r3 : Int)), rfl, by omega, by omega, for_range (lo := 0) (fun i3 σ H' => ∃ (v13 v14 : Option V) (r : Rw),
            σ = [some (.ref p), some (.int m1), some (.int m2), some (.int m3), some (.int (1 + r1)), some (.int (1 + r2)), some (.int (1 + r3)), some (.int sh), some (.ref fl), some (.int (0 + i)), some (.ref rl), some (.int (0 + i2)), some (.ref ol), v13, v14] ∧
            H' ol = some (.lst (r.map oV)) ∧ r.length = i3 ∧ (∀ m, some m ∈ r → m < 1 + r1) ∧ SameX p H6 H' ∧ PotAt H' p (n + 4 + i * 32 + i2 * 8 + i3 * 2))
          ⟨v13, v14, [], rfl, upd_same, rfl, by simp, (SameX.refl p H6).new hol, (P6.new nolp).mono (by omega)⟩ ?_ ?_⟩
        · rintro i3 σ H7 hi3 ⟨v13, v14, r, rfl, h7, hrl2, hrs, S7, P7⟩
          refine ⟨_, rfl, _, rfl, p, sh, _, rfl, hsh0, by omega, P7, by omega, fun H8 r8 s8 P8 q8 => ⟨rfl, ?_⟩⟩
          have h8 := s8 ol _ h7 nolp
          refine ⟨_, rfl, .inl ⟨rfl, _, SqL.of h8⟩, _, rfl, _, rfl, ?_⟩
          refine ite2 (fun hz => ?_) (fun hz => ?_)
          · refine ⟨ol, _, _, rfl, rfl, h8, by simp; exact Nat.lt_of_le_of_lt (show r.length ≤ 1000 by omega) (by decide), ?_⟩
            refine ⟨_, _, r ++ [none], rfl, by rw [upd_same]; simp [oV], by simp; omega, ?_, ?_, ?_⟩
            · intro m hm; simp at hm; exact hrs m hm
            · exact (S7.trans s8).own hol
            · exact (P8.new nolp).mono (by omega)
          · refine ⟨_, rfl, _, rfl, p, _, _, rfl, by omega, by omega, P8, by omega, fun H9 r9 s9 P9 q9 => ?_⟩
            have h9 := s9 ol _ h8 nolp
            refine ⟨ol, _, _, rfl, rfl, h9, by simp; exact Nat.lt_of_le_of_lt (show r.length ≤ 1000 by omega) (by decide), ?_⟩
            refine ⟨_, _, r ++ [some r9], rfl, by rw [upd_same]; simp [oV], by simp; omega, ?_, ?_, ?_⟩
            · intro m hm; simp at hm; rcases hm with hm | hm
              · exact hrs m hm
              · omega
            · exact ((S7.trans s8).trans s9).own hol
            · exact (P9.new nolp).mono (by omega)
        · rintro σ H7 ⟨v13, v14, r, rfl, h7, hrl2, hrs, S7, P7⟩
          have h7r := S7 rl _ h6 nrlp
          refine ⟨_, rfl, .inl ⟨rfl, _, SqL.of h7r⟩, _, rfl, ol, _, rfl, .inl ⟨SqL.of h7, fun tl htl => ?_⟩⟩
          have nt : rl ≠ tl := ne_of_none h7r htl
          have ntp : tl ≠ p := P7.ne htl
          refine ⟨rl, _, _, rfl, rfl, (upd_ne nt).trans h7r, ?_, ?_⟩
          · have := paired_len hps
            exact Nat.lt_of_le_of_lt (show ws.length ≤ 1000 by omega) (by decide)
          · have st7 : SameT H6 H7 := P6.t S7
            have stN : SameT H7 (upd H7 tl (.tup (r.map oV))) := SameT.new htl
            have h7r' := (upd_ne (o := .tup (r.map oV)) nt).trans h7r
            have stL : SameT (upd H7 tl (.tup (r.map oV))) (upd (upd H7 tl (.tup (r.map oV))) rl (.lst (ws ++ [V.ref tl]))) := SameT.lst h7r'
            refine ⟨_, _, _, _, ws ++ [.ref tl], sd ++ [r], rfl, upd_same, ?_, by simp; omega, ?_, ?_, ?_⟩
            · refine paired_snoc (paired_map hps fun _ _ x => ((x.t st7).t stN).t stL) ⟨tl, rfl, stL.seq (SqT.of upd_same)⟩
            · intro r' hr'
              simp at hr'
              rcases hr' with hr' | rfl
              · exact hss r' hr'
              · exact ⟨by omega, hrs⟩
            · exact ((S6.trans S7).new htl).own hrl
            · exact ((P7.new ntp).new nrlp).mono (by omega)
      · rintro σ H6 ⟨v11, v12, v13, v14, ws, sd, rfl, h6, hps, hsl, hss, S6, P6⟩
        have h6f := S6 fl _ h5 nflp
        refine ⟨_, rfl, .inl ⟨rfl, _, SqL.of h6f⟩, _, rfl, rl, _, rfl, .inl ⟨SqL.of h6, fun tl htl => ?_⟩⟩
        have nt : fl ≠ tl := ne_of_none h6f htl
        have ntp : tl ≠ p := P6.ne htl
        refine ⟨fl, _, _, rfl, rfl, (upd_ne nt).trans h6f, ?_, ?_⟩
        · have := paired_len hpj
          exact Nat.lt_of_le_of_lt (show vs.length ≤ 1000 by omega) (by decide)
        · have st7 : SameT H5 H6 := P5.t S6
          have stN : SameT H6 (upd H6 tl (.tup ws)) := SameT.new htl
          have h6f' := (upd_ne (o := .tup ws) nt).trans h6f
          have stL : SameT (upd H6 tl (.tup ws)) (upd (upd H6 tl (.tup ws)) fl (.lst (vs ++ [V.ref tl]))) := SameT.lst h6f'
          refine ⟨_, _, _, _, _, _, vs ++ [.ref tl], j ++ [sd], rfl, upd_same, ?_, by simp; omega, ?_, ?_, ?_⟩
          · refine paired_snoc (paired_map hpj fun _ _ x => ((x.t st7).t stN).t stL) ⟨tl, ws, rfl, stL.seq (SqT.of upd_same), paired_map hps fun _ _ x => (x.t stN).t stL⟩
          · intro s' hs'
            simp at hs'
            rcases hs' with hs' | rfl
            · exact hjs s' hs'
            · exact ⟨by omega, hss⟩
          · exact ((S5.trans S6).new htl).own hfl0
          · exact ((P6.new ntp).new nflp).mono (by omega)
    · rintro σ H5 ⟨v9, v10, v11, v12, v13, v14, vs, j, rfl, h5, hpj, hjl, hjs, S5, P5⟩
      refine ⟨_, rfl, fl, _, rfl, .inl ⟨SqL.of h5, fun tl htl => ?_⟩⟩
      have hjl' : j.length = 1 + r1 := by omega
      refine k _ _ j (1 + r2) (1 + r3) (S5.new htl) ((P5.new (P5.ne htl)).mono (by omega)) ⟨tl, vs, rfl, SqT.of upd_same, paired_map hpj fun _ _ x => x.t (SameT.new htl)⟩ ?_ (by omega) (by omega) (by omega)
      exact ⟨by omega, by omega, by omega, by omega, by omega, by omega, by rw [hjl']; exact hjs⟩
end
end LA

namespace LA
open PySem L2
open C8 (Cal pe_c)
section
variable {P : Program} {w : World} {K : PySem.W.Frag} {mg : Str → Option Value} {base : Heap}
abbrev s_all_words : Stmt := topS 18
abbrev N_all_words : List Str := ["_law_letters", "_law_length", "_law_found", "_law_turn", "_law_longer", "_law_word", "_law_letter"]
theorem sc_all_words : FnScope N_all_words ["_law_letters", "_law_length"] (defScope s_all_words) := ⟨rfl, rfl, rfl, by decide +kernel, rfl, by decide +kernel, by decide +kernel⟩
theorem ok_all_words {f : Addr} {fd : FuncData} (F : Fun K "_law_all_words" "_law_all_words" s_all_words f fd) (T : Bt mg) : FnOk P w K mg base CX0 1 f fd ["_law_letters", "_law_length"] (spAllWords K) := by
  refine F.ok sc_all_words (fun vs H Q E h => ?_) (fun cdv A outer s H vs Q E hr h => ?_)
  · obtain ⟨L, n, rfl, _⟩ := h
    rfl
  · obtain ⟨L, n, rfl, hL1, hL2, hn2, hLn, k⟩ := h
    refine ⟨_, (pss_cons (ps_set (i := 2) sc_all_words.nd rfl (Or.inl rfl) (pe_lst (pa_cons (pe_tup pa_nil) pa_nil)))
(pss_cons (ps_for PassesOwn.never rfl (pi_range1 (by rfl) T.range (pa_cons (pv 1) pa_nil)) (pg_name (i := 3) sc_all_words.nd rfl (Or.inl rfl))
(pss_cons (ps_set (i := 4) sc_all_words.nd rfl (Or.inl rfl) (pe_lst pa_nil))
(pss_cons (ps_for PassesOwn.never rfl (piLK K (pv 2)) (pg_name (i := 5) sc_all_words.nd rfl (Or.inr rfl))
(pss_one (ps_expr (pe_bm PySem.F.plainAttrs_list PySem.F.slot_list_extend PySem.F.type_list_extend mt_extend (pv 4) (pa_cons (pe_lc (own := [("_law_letter", 6)]) (g := (gName 6)) (tt := tYes) rfl sc_all_words.nd (pi_range1 (by rfl) T.range (pa_cons (pv 0) pa_nil)) (blkOk_by (N := N_all_words) (sc := defScope s_all_words) (by decide +kernel)) (fun _ _ _ _ _ => (pg_name (i := 6) sc_all_words.nd rfl (Or.inl rfl))) (fun _ _ _ _ _ => pts_nil) (fun _ _ _ _ _ => (pe_op (catK K) (pv 5) (pe_tup (pa_cons (pv 6) pa_nil))))) pa_nil)))))
(pss_one (ps_set (i := 2) sc_all_words.nd rfl (Or.inl rfl) (pv 4))))))
(pss_one (ps_ret (pv 2))))), ?_⟩
    refine ⟨by decide, fun e he => ⟨by show 1 ≤ sizeLine; decide, fun l hl => ?_⟩⟩
    have nle : e ≠ l := fun z => by rw [← z, upd_same] at hl; cases hl
    have hl0 : H l = none := by rw [← hl, upd_ne (Ne.symm nle)]
    refine ⟨_, rfl, (n : Int), rfl, by omega, by omega, for_range (lo := 0) (fun i σ H' => ∃ (l : Addr) (v3 v4 v5 v6 : Option V) (us : List V),
        σ = [some (.int (L : Int)), some (.int (n : Int)), some (.ref l), v3, v4, v5, v6] ∧ H' l = some (.lst us) ∧ Paired (WordAt K H') us (allW L i) ∧ Same H H' ∧ H l = none)
      ⟨l, none, none, none, none, [.ref e], rfl, upd_same, .cons ⟨e, rfl, SqT.of ((upd_ne nle).trans upd_same)⟩ .nil, ((Same.refl H).new he).new hl, hl0⟩ ?_ ?_⟩
    · rintro i σ H1 hi ⟨l, v3, v4, v5, v6, us, rfl, h1, hp1, S1, hl0⟩
      have hi' : i < n := by simpa using hi
      refine ⟨by decide, fun g hg => ?_⟩
      have nlg : l ≠ g := ne_of_none h1 hg
      have hg0 : H g = none := S1.free hg
      have hus : us.length ≤ 100000 := by
        rw [paired_len hp1, allW_len]
        exact Nat.le_trans (Nat.pow_le_pow_right hL1 (by omega)) hLn
      refine ⟨_, rfl, l, rfl, ⟨_, SqL.of ((upd_ne nlg).trans h1)⟩, for_list (K := K) (a := l) (xs := us) (fun j σ H' => ∃ (v5 v6 : Option V) (ws : List V),
          σ = [some (.int (L : Int)), some (.int (n : Int)), some (.ref l), some (.int (0 + i)), some (.ref g), v5, v6] ∧ H' g = some (.lst ws) ∧ Paired (WordAt K H') ws (((allW L i).take j).flatMap fun w => (List.range L).map fun x => w ++ [x]) ∧ Same H1 H')
        ⟨v5, v6, [], rfl, upd_same, .nil, (Same.refl H1).new hg⟩ (fun j σ H' _ ⟨_, _, _, _, _, _, z⟩ => SqL.of (z l _ h1)) ?_ ?_⟩
      · rintro j y σ H2 hy ⟨v5, v6, ws, rfl, h2, hp2, S2⟩
        obtain ⟨wd, hwd, ya, rfl, hya⟩ := paired_at hp1 hy
        have hya2 := (Same.t S2).seq hya
        refine ⟨_, rfl, .inl ⟨rfl, _, SqL.of h2⟩, _, rfl, (L : Int), rfl, by omega, by omega, fun D hD => ?_⟩
        have ngD : g ≠ D := ne_of_none h2 hD
        refine lc_range (lo := 0) (fun m H' => ∃ zs : List V, H' D = some (.lst zs) ∧ Paired (WordAt K H') zs ((List.range m).map fun x => wd ++ [x]) ∧ Same H2 H')
          ⟨[], upd_same, .nil, (Same.refl H2).new hD⟩ ?_ ?_
        · rintro m H3 hm ⟨zs, h3, hp3, S3⟩
          refine ⟨rfl, tyes ?_⟩
          refine ⟨_, rfl, _, rfl, by show 1 ≤ sizeLine; decide, fun t ht => ?_⟩
          have hya3 := (SameT.new (o := .tup [V.int (0 + (m : Int))]) ht).seq ((Same.t S3).seq hya2)
          have hzl : zs.length < sizeLine := by
            have := paired_len hp3
            simp at this
            exact Nat.lt_of_le_of_lt (show zs.length ≤ 1000 by omega) (by decide)
          have ntD : D ≠ t := ne_of_none h3 ht
          have hm0 : (V.int (0 + (m : Int))) = nV m := by unfold nV; rw [Int.zero_add]
          have hwl : wd.length = i := ((mem_allW L i wd).mp (List.mem_of_getElem? hwd)).1
          refine ⟨ya, t, _, _, rfl, rfl, hya3, SqT.of upd_same, by simp [hwl]; exact Nat.le_trans (show i + 1 ≤ 1001 by omega) (by decide), fun hw0 => ?_, (fun _ z => nomatch z), fun hw0 _ q hq => ?_⟩
          · refine ⟨zs, (upd_ne ntD).trans h3, hzl, zs ++ [.ref t], upd_same, ?_, ?_⟩
            · rw [List.range_succ, List.map_append]
              have hw1 : wd = [] := by simpa using hw0
              have s1 := SameT.new (o := .tup [V.int (0 + (m : Int))]) ht
              have s2 := SameT.lst (ys := zs ++ [V.ref t]) ((upd_ne (o := .tup [V.int (0 + (m : Int))]) ntD).trans h3)
              refine paired_snoc (paired_map hp3 fun _ _ x => (x.t s1).t s2) ⟨t, rfl, s2.seq (SqT.of ?_)⟩
              rw [hw1, hm0, upd_same]; rfl
            · exact (S3.new ht).own hD
          · have nqD : D ≠ q := ne_of_none ((upd_ne ntD).trans h3) hq
            refine ⟨zs, (upd_ne nqD).trans ((upd_ne ntD).trans h3), hzl, zs ++ [.ref q], upd_same, ?_, ?_⟩
            · rw [List.range_succ, List.map_append]
              have s1 := SameT.new (o := .tup [V.int (0 + (m : Int))]) ht
              have s1b := SameT.new (o := .tup (wd.map nV ++ [V.int (0 + (m : Int))])) hq
              have s2 := SameT.lst (ys := zs ++ [V.ref q]) ((upd_ne (o := .tup (wd.map nV ++ [V.int (0 + (m : Int))])) nqD).trans ((upd_ne (o := .tup [V.int (0 + (m : Int))]) ntD).trans h3))
              refine paired_snoc (paired_map hp3 fun _ _ x => ((x.t s1).t s1b).t s2) ⟨q, rfl, s2.seq (SqT.of ?_)⟩
              rw [upd_same, hm0]; simp
            · exact ((S3.new ht).new hq).own hD
        · rintro H3 ⟨zs, h3, hp3, S3⟩
          have h2g := S3 g _ h2
          refine ⟨g, D, _, _, rfl, rfl, h2g, h3, ?_, ?_⟩
          · have e1 := paired_len hp2
            have e2 := paired_len hp3
            rw [flat_len _ L _ (by intro w _; simp)] at e1
            simp at e1 e2
            have hj : j < L ^ i := by
              have := (List.getElem?_eq_some_iff.mp hwd).1
              rwa [allW_len] at this
            have h5 : L ^ (i + 1) ≤ 100000 := Nat.le_trans (Nat.pow_le_pow_right hL1 (by omega)) hLn
            have h6 : (j + 1) * L ≤ L ^ (i + 1) := by rw [Nat.pow_succ]; exact Nat.mul_le_mul_right _ hj
            have h7 : min j (allW L i).length * L ≤ j * L := Nat.mul_le_mul_right _ (Nat.min_le_left _ _)
            have h8 : (j + 1) * L = j * L + L := by rw [Nat.add_mul]; omega
            exact Nat.le_trans (show ws.length + zs.length ≤ 100000 by omega) (by decide)
          · refine ⟨_, _, ws ++ zs, rfl, upd_same, ?_, ?_⟩
            · rw [flat_take _ _ _ _ hwd]
              have s2 := SameT.lst (ys := ws ++ zs) h2g
              exact paired_append (paired_map hp2 fun _ _ x => (x.t (Same.t S3)).t s2) (paired_map hp3 fun _ _ x => x.t s2)
            · exact (S2.trans S3).own hg
      · rintro σ H2 ⟨v5, v6, ws, rfl, h2, hp2, S2⟩
        rw [List.take_of_length_le (by rw [paired_len hp1]; exact Nat.le_refl _)] at hp2
        exact ⟨_, rfl, g, _, _, _, _, ws, rfl, h2, hp2, S1.trans S2, hg0⟩
    · rintro σ H1 ⟨l, v3, v4, v5, v6, us, rfl, h1, hp1, S1, hl0⟩
      exact ⟨_, rfl, k H1 l us S1 hl0 h1 (by simpa using hp1)⟩
end
end LA

namespace LA
open PySem L2
open C8 (Cal pe_c)
section
variable {P : Program} {w : World} {K : PySem.W.Frag} {mg : Str → Option Value} {base : Heap}
abbrev s_further : Stmt := topS 19
abbrev N_further : List Str := ["_law_letters", "_law_far", "_law_places", "_law_length", "_law_found", "_law_promised", "_law_rows", "_law_x", "_law_row", "_law_y", "_law_later", "_law_is_kept"]
theorem sc_further : FnScope N_further ["_law_letters", "_law_far"] (defScope s_further) := ⟨rfl, rfl, rfl, by decide +kernel, rfl, by decide +kernel, by decide +kernel⟩
theorem ok_further {f : Addr} {fd : FuncData} (F : Fun K "_law_further" "_law_further" s_further f fd) (T : Bt mg) (c_all_words : Cal P w K mg base 1 "_law_all_words" (spAllWords K) []) : FnOk P w K mg base CX0 2 f fd ["_law_letters", "_law_far"] (spFurther K) := by
  refine F.ok sc_further (fun vs H Q E h => ?_) (fun cdv A outer s H vs Q E hr h => ?_)
  · obtain ⟨L, Fa, rfl, _⟩ := h
    rfl
  · obtain ⟨L, Fa, rfl, hL1, hL4, hF1, hF3, h8, k⟩ := h
    have hu65 := reprRoom hr
    refine ⟨_, (pss_cons (ps_set (i := 2) sc_further.nd rfl (Or.inl rfl) (pe_lst pa_nil))
(pss_cons (ps_for PassesOwn.never rfl (pi_range1 (by rfl) T.range (pa_cons (pe_op op_add (pv 1) pe_int) pa_nil)) (pg_name (i := 3) sc_further.nd rfl (Or.inl rfl))
(pss_one (ps_expr (pe_bm PySem.F.plainAttrs_list PySem.F.slot_list_extend PySem.F.type_list_extend mt_extend (pv 2) (pa_cons (pe_c c_all_words hr (by decide) rfl (pa_cons (pv 0) (pa_cons (pv 3) pa_nil))) pa_nil)))))
(pss_cons (ps_set (i := 4) sc_further.nd rfl (Or.inl rfl) (pe_lst pa_nil))
(pss_cons (ps_for PassesOwn.never rfl (piLK K (pv 2)) (pg_name (i := 5) sc_further.nd rfl (Or.inl rfl))
(pss_cons (ps_set (i := 6) sc_further.nd rfl (Or.inl rfl) (pe_lst pa_nil))
(pss_cons (ps_for PassesOwn.never rfl (pi_range1 (by rfl) T.range (pa_cons (pv 0) pa_nil)) (pg_name (i := 7) sc_further.nd rfl (Or.inl rfl))
(pss_cons (ps_set (i := 8) sc_further.nd rfl (Or.inl rfl) (pe_lst pa_nil))
(pss_cons (ps_for PassesOwn.never rfl (pi_range1 (by rfl) T.range (pa_cons (pv 0) pa_nil)) (pg_name (i := 9) sc_further.nd rfl (Or.inl rfl))
(pss_cons (ps_set (i := 10) sc_further.nd rfl (Or.inl rfl) (pe_slice (slTK K) (pe_op (catK K) (pv 5) (pe_tup (pa_cons (pv 9) pa_nil))) (po_some (pe_callTy call_int1 (by rfl) T.int (by decide +kernel) (pa_cons (pe_cmpR op_eq (pe_callB (lenK K) (by rfl) T.len PySem.boot_len (pa_cons (pv 5) pa_nil)) (pv 1) (nomark _)) pa_nil))) po_none))
(pss_cons (ps_set (i := 11) sc_further.nd rfl (Or.inl rfl) (pe_or (pe_cmpR op_lt (pe_callB (lenK K) (by rfl) T.len PySem.boot_len (pa_cons (pv 5) pa_nil)) (pv 1) (nomark _)) (pe_one (pe_cmpR op_eq (pe_ix (ixTK K) (pe_op (catK K) (pv 5) (pe_tup (pa_cons (pv 9) pa_nil))) pe_int (fun _ _ => rfl)) (pv 7) (nomark _)))))
(pss_one (ps_expr (pe_bm PySem.F.plainAttrs_list PySem.F.slot_list_append PySem.F.type_list_append mt_append (pv 8) (pa_cons (pe_ifExp (pt_val (pv 11)) (pe_bm PySem.F.plainAttrs_list PySem.F.slot_list_index PySem.F.type_list_index (mt_indexD hu65) (pv 2) (pa_cons (pv 10) pa_nil)) pe_non) pa_nil)))))))
(pss_one (ps_expr (pe_bm PySem.F.plainAttrs_list PySem.F.slot_list_append PySem.F.type_list_append mt_append (pv 6) (pa_cons (pe_callTy (tupK K) (by rfl) T.tuple (by decide +kernel) (pa_cons (pv 8) pa_nil)) pa_nil)))))))
(pss_one (ps_expr (pe_bm PySem.F.plainAttrs_list PySem.F.slot_list_append PySem.F.type_list_append mt_append (pv 4) (pa_cons (pe_callTy (tupK K) (by rfl) T.tuple (by decide +kernel) (pa_cons (pv 6) pa_nil)) pa_nil)))))))
(pss_one (ps_ret (pe_callTy (tupK K) (by rfl) T.tuple (by decide +kernel) (pa_cons (pv 4) pa_nil)))))))), ?_⟩
    refine ⟨by decide, fun pl hpl => ?_⟩
    refine ⟨_, rfl, _, _, rfl, rfl, _, rfl, by omega, by omega, for_range (lo := 0) (fun i σ H' => ∃ (v3 : Option V) (us : List V),
        σ = [some (.int (L : Int)), some (.int (Fa : Int)), some (.ref pl), v3, none, none, none, none, none, none, none, none] ∧ H' pl = some (.lst us) ∧ Paired (WordAt K H') us ((List.range i).flatMap (allW L)) ∧ Same H H')
      ⟨none, [], rfl, upd_same, .nil, (Same.refl H).new hpl⟩ ?_ ?_⟩
    · rintro i σ H1 hi ⟨v3, us, rfl, h1, hp1, S1⟩
      have hi' : i < Fa + 1 := by omega
      refine ⟨_, rfl, .inl ⟨rfl, _, SqL.of h1⟩, _, rfl, _, rfl, L, i, ?_, hL1, by omega, by omega, pow_small L (by omega) i (by omega), fun H2 q zs S2 hq h2 hp2 => ?_⟩
      · rw [Int.zero_add]; rfl
      · refine ⟨pl, q, us, zs, rfl, rfl, S2 pl _ h1, h2, ?_, ?_⟩
        · have e1 := paired_len hp1
          have e2 := paired_len hp2
          have e3 := plcs_small L (by omega) i (by omega)
          have e4 := pow_small L (by omega) i (by omega)
          rw [allW_len] at e2
          exact Nat.le_trans (show us.length + zs.length ≤ 200000 by omega) (by decide)
        · have s2 := SameT.lst (ys := us ++ zs) (S2 pl _ h1)
          refine ⟨_, us ++ zs, rfl, upd_same, ?_, (S1.trans S2).own hpl⟩
          rw [List.range_succ, List.flatMap_append, List.flatMap_singleton]
          exact paired_append (paired_map hp1 fun _ _ x => (x.t (Same.t S2)).t s2) (paired_map hp2 fun _ _ x => x.t s2)
    · rintro σ H1 ⟨v3, us, rfl, h1, hp1, S1⟩
      have hp1' : Paired (WordAt K H1) us (plcs L Fa) := by
        have e : ((Fa : Int) + 1).toNat = Fa + 1 := by omega
        rw [e] at hp1; exact hp1
      clear hp1
      have hul := paired_len hp1'
      refine ⟨by decide, fun fl hfl => ?_⟩
      have npf : pl ≠ fl := ne_of_none h1 hfl
      refine ⟨_, rfl, pl, rfl, ⟨_, SqL.of ((upd_ne npf).trans h1)⟩, for_list (K := K) (a := pl) (xs := us) (fun j σ H' => ∃ (v5 v6 v7 v8 v9 v10 v11 : Option V) (vs : List V),
          σ = [some (.int (L : Int)), some (.int (Fa : Int)), some (.ref pl), v3, some (.ref fl), v5, v6, v7, v8, v9, v10, v11] ∧ H' fl = some (.lst vs) ∧ Paired (StAt K H') vs (((plcs L Fa).take j).map (furS L Fa)) ∧ Same H1 H')
        ⟨none, none, none, none, none, none, none, [], rfl, upd_same, .nil, (Same.refl H1).new hfl⟩ (fun j σ H' _ ⟨_, _, _, _, _, _, _, _, _, _, _, z⟩ => SqL.of (z pl _ h1)) ?_ ?_⟩
      · rintro j yv σ H2 hy ⟨v5, v6, v7, v8, v9, v10, v11, vs, rfl, h2, hp2, S2⟩
        obtain ⟨wd, hwd, ya, rfl, hya⟩ := paired_at hp1' hy
        have hwm : wd ∈ plcs L Fa := List.mem_of_getElem? hwd
        have hwl := (mem_plcs.mp hwm).1
        refine ⟨by decide, fun rl hrl => ?_⟩
        refine ⟨_, rfl, (L : Int), rfl, by omega, by omega, for_range (lo := 0) (fun i σ H' => ∃ (v7 v8 v9 v10 v11 : Option V) (ws : List V),
            σ = [some (.int (L : Int)), some (.int (Fa : Int)), some (.ref pl), v3, some (.ref fl), some (.ref ya), some (.ref rl), v7, v8, v9, v10, v11] ∧ H' rl = some (.lst ws) ∧ Paired (RowAt K H') ws ((List.range i).map (furR L Fa wd)) ∧ Same H2 H')
          ⟨v7, v8, v9, v10, v11, [], rfl, upd_same, .nil, (Same.refl H2).new hrl⟩ ?_ ?_⟩
        · rintro i σ H3 hi ⟨v7, v8, v9, v10, v11, ws, rfl, h3, hp3, S3⟩
          refine ⟨by decide, fun ol hol => ?_⟩
          refine ⟨_, rfl, (L : Int), rfl, by omega, by omega, for_range (lo := 0) (fun m σ H' => ∃ (v9 v10 v11 : Option V),
              σ = [some (.int (L : Int)), some (.int (Fa : Int)), some (.ref pl), v3, some (.ref fl), some (.ref ya), some (.ref rl), some (.int (0 + (i : Int))), some (.ref ol), v9, v10, v11] ∧ H' ol = some (.lst (((List.range m).map (furE L Fa wd i)).map oV)) ∧ Same H3 H')
            ⟨v9, v10, v11, rfl, upd_same, (Same.refl H3).new hol⟩ ?_ ?_⟩
          · rintro m σ H4 hm ⟨v9, v10, v11, rfl, h4, S4⟩
            have hm' : m < L := by omega
            have S14 : Same H1 H4 := (S2.trans S3).trans S4
            refine ⟨_, rfl, _, rfl, by show 1 ≤ sizeLine; decide, fun t ht => ?_⟩
            have hm0 : (V.int (0 + (m : Int))) = nV m := by unfold nV; rw [Int.zero_add]
            have S5 : Same H4 (upd H4 t (.tup [V.int (0 + (m : Int))])) := (Same.refl H4).new ht
            have hya5 := (Same.t (S14.trans S5)).seq hya
            refine catOne (K := K) hya5 (SqT.of upd_same) (by simp; exact Nat.le_trans (show wd.length + 1 ≤ 1000 by omega) (by decide)) (fun H6 ta S6 hta => ?_)
            rw [hm0] at hta
            have hta' : SqT K H6 ta ((wd ++ [m]).map nV) := by simpa using hta
            refine ⟨_, rfl, ya, _, rfl, .inr ((Same.t ((S14.trans S5).trans S6)).seq hya), _, rfl, rfl, .inr ⟨_, rfl, _, rfl, ?_⟩⟩
            have eb : (if decide (V.int (((wd.map nV).length : Nat) : Int) = V.int (Fa : Int)) = true then (1 : Int) else 0) = ((if wd.length = Fa then 1 else 0 : Nat) : Int) := by
              rw [List.length_map]
              by_cases e : wd.length = Fa
              · rw [if_pos e, if_pos (decide_eq_true (by rw [e]))]; rfl
              · rw [if_neg e, if_neg (by rw [decide_eq_false (by intro z; injection z; omega)]; decide)]; rfl
            unfold tNoPart
            rw [eb]
            refine slOne (K := K) hta' (fun H7 tb S7 htb => ?_)
            have htb' : SqT K H7 tb ((later Fa wd m).map nV) := by
              rw [cut_from (by split <;> simp)] at htb
              unfold later; rw [List.map_drop]; exact htb
            have S17 : Same H1 H7 := ((S14.trans S5).trans S6).trans S7
            have S47 : Same H4 H7 := (S5.trans S6).trans S7
            have hya7 := (Same.t S17).seq hya
            refine ⟨_, rfl, ya, _, rfl, .inr hya7, _, rfl, _, _, rfl, rfl, _, rfl, ?_⟩
            have lmem := later_mem hF1 hwm hm'
            have h4' : ((List.range (m + 1)).map (furE L Fa wd i)).map oV = ((List.range m).map (furE L Fa wd i)).map oV ++ [oV (furE L Fa wd i m)] := by
              rw [List.range_succ]; simp
            have hsz : (((List.range m).map (furE L Fa wd i)).map oV).length < sizeLine := by simp; exact Nat.lt_of_le_of_lt (show m ≤ 1000 by omega) (by decide)
            -- what is left of the turn, from the test's answer on
            have fin : ∀ (H8 : Hp) (c : Bool), Same H7 H8 → (c = true ↔ (wd.length < Fa ∨ (wd ++ [m]).head? = some i)) → ∀ D : Ends, (∀ (v9 v10 v11 : Option V) H', H' ol = some (.lst (((List.range (m + 1)).map (furE L Fa wd i)).map oV)) → Same H3 H' →
                D.nx [some (.int (L : Int)), some (.int (Fa : Int)), some (.ref pl), v3, some (.ref fl), some (.ref ya), some (.ref rl), some (.int (0 + (i : Int))), some (.ref ol), v9, v10, v11] H') →
                tDrop (tBM K "list" rAppend (tVar 8) (tCons (tIf (tB (tVar 11)) (tBM K "list" (rIndexD K) (tVar 2) (tCons (tVar 10) tNil)) (tC V.non)) tNil)) D
                  [some (.int (L : Int)), some (.int (Fa : Int)), some (.ref pl), v3, some (.ref fl), some (.ref ya), some (.ref rl), some (.int (0 + (i : Int))), some (.ref ol), some (.int (0 + (m : Int))), some (.ref tb), some (.bl c)] H8 := by
              intro H8 c S8 hc D hD
              have h8 := (S47.trans S8) ol _ h4
              refine ⟨_, rfl, .inl ⟨rfl, _, SqL.of h8⟩, _, rfl, _, rfl, ?_⟩
              refine ite2 (fun hz => ?_) (fun hz => ?_)
              · have hpl8 := (S17.trans S8) pl _ h1
                refine ⟨_, rfl, .inl ⟨rfl, _, SqL.of hpl8⟩, _, rfl, ?_⟩
                unfold tNil
                refine indexOne (K := K) (SqL.of hpl8) (paired_map hp1' fun _ _ x => x.t (Same.t (S17.trans S8))) ⟨tb, rfl, (Same.t S8).seq htb'⟩ lmem ?_
                refine ⟨ol, _, _, rfl, rfl, h8, hsz, ?_⟩
                refine hD _ _ _ _ ?_ ((S4.trans (S47.trans S8)).own hol)
                rw [upd_same, h4']
                have e : furE L Fa wd i m = some (ixOf (plcs L Fa) (later Fa wd m)) := by unfold furE; rw [if_pos (hc.mp hz)]
                rw [e]; rfl
              · refine ⟨ol, _, _, rfl, rfl, h8, hsz, ?_⟩
                refine hD _ _ _ _ ?_ ((S4.trans (S47.trans S8)).own hol)
                rw [upd_same, h4']
                have e : furE L Fa wd i m = none := by unfold furE; rw [if_neg (fun z => hz (hc.mpr z))]
                rw [e]; rfl
            refine ite2 (fun hlt => ?_) (fun hlt => ?_)
            · refine fin H7 true (Same.refl H7) ⟨fun _ => .inl ?_, fun _ => rfl⟩ _ (fun v9 v10 v11 H' hh SS => ⟨v9, v10, v11, rfl, hh, SS⟩)
              have := of_decide_eq_true hlt
              simpa using this
            · refine ⟨_, rfl, _, rfl, by show 1 ≤ sizeLine; decide, fun t2 ht2 => ?_⟩
              have S8 : Same H7 (upd H7 t2 (.tup [V.int (0 + (m : Int))])) := (Same.refl H7).new ht2
              refine catOne (K := K) ((Same.t S8).seq hya7) (SqT.of upd_same) (by simp; exact Nat.le_trans (show wd.length + 1 ≤ 1000 by omega) (by decide)) (fun H9 tc S9 htc => ?_)
              rw [hm0] at htc
              have htc' : SqT K H9 tc ((wd ++ [m]).map nV) := by simpa using htc
              obtain ⟨z, hz1, hz2⟩ := head_at (w := wd) (y := m)
              refine ⟨tc, _, _, _, rfl, rfl, htc', atI_nat (j := 0) hz1, _, rfl, rfl, ?_⟩
              refine fin H9 _ (S8.trans S9) ?_ _ (fun v9 v10 v11 H' hh SS => ⟨v9, v10, v11, rfl, hh, SS⟩)
              rw [hz2]
              have hlt2 : ¬ wd.length < Fa := by
                intro q; apply hlt; apply decide_eq_true; simpa using q
              constructor
              · intro q
                have q1 := of_decide_eq_true q
                unfold nV at q1
                injection q1 with q2
                right; congr 1; omega
              · rintro (q | q)
                · exact absurd q hlt2
                · injection q with q2
                  apply decide_eq_true
                  rw [q2, Int.zero_add]; rfl
          · rintro σ H4 ⟨v9, v10, v11, rfl, h4, S4⟩
            have e : (L : Int).toNat = L := by omega
            rw [e] at h4
            have h4r := S4 rl _ h3
            refine ⟨_, rfl, .inl ⟨rfl, _, SqL.of h4r⟩, _, rfl, ol, _, rfl, .inl ⟨SqL.of h4, fun tl htl => ?_⟩⟩
            have nt : rl ≠ tl := ne_of_none h4r htl
            refine ⟨rl, _, _, rfl, rfl, (upd_ne nt).trans h4r, ?_, ?_⟩
            · have := paired_len hp3
              simp at this
              exact Nat.lt_of_le_of_lt (show ws.length ≤ 1000 by omega) (by decide)
            · have stN := SameT.new (o := .tup (((List.range L).map (furE L Fa wd i)).map oV)) htl
              have stL := SameT.lst (ys := ws ++ [V.ref tl]) ((upd_ne (o := .tup (((List.range L).map (furE L Fa wd i)).map oV)) nt).trans h4r)
              refine ⟨_, _, _, _, _, ws ++ [.ref tl], rfl, upd_same, ?_, ((S3.trans S4).new htl).own hrl⟩
              rw [List.range_succ, List.map_append]
              exact paired_snoc (paired_map hp3 fun _ _ x => ((x.t (Same.t S4)).t stN).t stL) ⟨tl, rfl, stL.seq (SqT.of upd_same)⟩
        · rintro σ H3 ⟨v7, v8, v9, v10, v11, ws, rfl, h3, hp3, S3⟩
          have e : (L : Int).toNat = L := by omega
          rw [e] at hp3
          have h3f := S3 fl _ h2
          refine ⟨_, rfl, .inl ⟨rfl, _, SqL.of h3f⟩, _, rfl, rl, _, rfl, .inl ⟨SqL.of h3, fun tl htl => ?_⟩⟩
          have nt : fl ≠ tl := ne_of_none h3f htl
          refine ⟨fl, _, _, rfl, rfl, (upd_ne nt).trans h3f, ?_, ?_⟩
          · have := paired_len hp2
            simp at this
            exact Nat.lt_of_le_of_lt (show vs.length ≤ 1000 by omega) (by decide)
          · have stN := SameT.new (o := .tup ws) htl
            have stL := SameT.lst (ys := vs ++ [V.ref tl]) ((upd_ne (o := .tup ws) nt).trans h3f)
            refine ⟨_, _, _, _, _, _, _, vs ++ [.ref tl], rfl, upd_same, ?_, ((S2.trans S3).new htl).own hfl⟩
            rw [List.take_add_one, hwd, List.map_append]
            exact paired_snoc (paired_map hp2 fun _ _ x => ((x.t (Same.t S3)).t stN).t stL) ⟨tl, ws, rfl, stL.seq (SqT.of upd_same), paired_map hp3 fun _ _ x => (x.t stN).t stL⟩
      · rintro σ H2 ⟨v5, v6, v7, v8, v9, v10, v11, vs, rfl, h2, hp2, S2⟩
        rw [List.take_of_length_le (by omega)] at hp2
        refine ⟨_, rfl, fl, _, rfl, .inl ⟨SqL.of h2, fun tl htl => ?_⟩⟩
        exact k _ _ ((S1.trans S2).new htl) ⟨tl, vs, rfl, SqT.of upd_same, paired_map hp2 fun _ _ x => x.t (SameT.new htl)⟩
end
end LA

namespace LA
open PySem L2
open C8 (Cal pe_c)
section
variable {P : Program} {w : World} {K : PySem.W.Frag} {mg : Str → Option Value} {base : Heap}
abbrev s_parity : Stmt := topS 20
abbrev N_parity : List Str := ["_law_phases", "_law_first", "_law_x", "_law_row", "_law_y", "_law_rest", "_law_found", "_law_phase", "_law_rows", "_law_left", "_law_ahead"]
theorem sc_parity : FnScope N_parity ["_law_phases"] (defScope s_parity) := ⟨rfl, rfl, rfl, by decide +kernel, rfl, by decide +kernel, by decide +kernel⟩
theorem ok_parity {f : Addr} {fd : FuncData} (F : Fun K "_law_parity" "_law_parity" s_parity f fd) (T : Bt mg) : FnOk P w K mg base CX0 1 f fd ["_law_phases"] (spParity K) := by
  refine F.ok sc_parity (fun vs H Q E h => ?_) (fun cdv A outer s H vs Q E hr h => ?_)
  · obtain ⟨ph, rfl, _⟩ := h
    rfl
  · obtain ⟨ph, rfl, hp1, hp4, k⟩ := h
    refine ⟨_, (pss_cons (ps_set (i := 1) sc_parity.nd rfl (Or.inl rfl) (pe_lst pa_nil))
(pss_cons (ps_for PassesOwn.never rfl (piTK K (pe_tup (pa_cons pe_int (pa_cons pe_int pa_nil)))) (pg_name (i := 2) sc_parity.nd rfl (Or.inl rfl))
(pss_cons (ps_set (i := 3) sc_parity.nd rfl (Or.inl rfl) (pe_lst pa_nil))
(pss_cons (ps_for PassesOwn.never rfl (piTK K (pe_tup (pa_cons pe_int (pa_cons pe_int pa_nil)))) (pg_name (i := 4) sc_parity.nd rfl (Or.inl rfl))
(pss_cons (ps_set (i := 5) sc_parity.nd rfl (Or.inl rfl) (pe_op op_mod (pe_op op_add (pv 2) (pv 4)) pe_int))
(pss_one (ps_expr (pe_bm PySem.F.plainAttrs_list PySem.F.slot_list_append PySem.F.type_list_append mt_append (pv 3) (pa_cons (pe_ifExp (pt_cmpR op_gt (pv 0) pe_int (nomark _)) (pe_op op_add pe_int (pv 5)) (pe_ifExp (pt_cmpR op_eq (pv 5) pe_int (nomark _)) pe_int pe_non)) pa_nil))))))
(pss_one (ps_expr (pe_bm PySem.F.plainAttrs_list PySem.F.slot_list_append PySem.F.type_list_append mt_append (pv 1) (pa_cons (pe_callTy (tupK K) (by rfl) T.tuple (by decide +kernel) (pa_cons (pv 3) pa_nil)) pa_nil)))))))
(pss_cons (ps_set (i := 6) sc_parity.nd rfl (Or.inl rfl) (pe_lst (pa_cons (pe_callTy (tupK K) (by rfl) T.tuple (by decide +kernel) (pa_cons (pv 1) pa_nil)) pa_nil)))
(pss_cons (ps_for PassesOwn.never rfl (pi_range2 (by rfl) T.range (pa_cons pe_int (pa_cons (pv 0) pa_nil))) (pg_name (i := 7) sc_parity.nd rfl (Or.inl rfl))
(pss_one (ps_for PassesOwn.never rfl (piTK K (pe_tup (pa_cons pe_int (pa_cons pe_int pa_nil)))) (pg_name (i := 5) sc_parity.nd rfl (Or.inl rfl))
(pss_cons (ps_set (i := 8) sc_parity.nd rfl (Or.inl rfl) (pe_lst pa_nil))
(pss_cons (ps_for PassesOwn.never rfl (piTK K (pe_tup (pa_cons pe_int (pa_cons pe_int pa_nil)))) (pg_name (i := 2) sc_parity.nd rfl (Or.inl rfl))
(pss_cons (ps_set (i := 9) sc_parity.nd rfl (Or.inl rfl) (pe_op op_mod (pe_op op_add (pv 5) (pv 2)) pe_int))
(pss_cons (ps_set (i := 10) sc_parity.nd rfl (Or.inl rfl) (pe_ifExp (pt_cmpR op_lt (pv 7) (pe_op op_sub (pv 0) pe_int) (nomark _)) (pe_op op_add (pe_op op_add pe_int (pe_op op_mul pe_int (pv 7))) (pv 9)) (pe_ifExp (pt_cmpR op_eq (pv 9) pe_int (nomark _)) pe_int pe_non)))
(pss_one (ps_expr (pe_bm PySem.F.plainAttrs_list PySem.F.slot_list_append PySem.F.type_list_append mt_append (pv 8) (pa_cons (pe_tup (pa_cons (pv 10) (pa_cons (pv 10) pa_nil))) pa_nil)))))))
(pss_one (ps_expr (pe_bm PySem.F.plainAttrs_list PySem.F.slot_list_append PySem.F.type_list_append mt_append (pv 6) (pa_cons (pe_callTy (tupK K) (by rfl) T.tuple (by decide +kernel) (pa_cons (pv 8) pa_nil)) pa_nil)))))))))
(pss_one (ps_ret (pe_callTy (tupK K) (by rfl) T.tuple (by decide +kernel) (pa_cons (pv 6) pa_nil)))))))), ?_⟩
    refine ⟨by decide, fun rl hrl => ?_⟩
    refine ⟨by show 2 ≤ sizeLine; decide, fun tp htp => ⟨tp, rfl, ⟨_, SqT.of upd_same⟩, ?_⟩⟩
    have nrt : rl ≠ tp := fun z => by rw [← z, upd_same] at htp; cases htp
    have htp0 : H tp = none := by rw [← htp, upd_ne (Ne.symm nrt)]
    refine for_tup (K := K) (a := tp) (xs := [.int 0, .int 1]) (fun i σ H' => ∃ (v2 v3 v4 v5 : Option V) (ws : List V), σ = [some (.int (ph : Int)), some (.ref rl), v2, v3, v4, v5, none, none, none, none, none] ∧
        H' rl = some (.lst ws) ∧ Paired (RowAt K H') ws ((List.range i).map (parR0 ph)) ∧ Same H H' ∧ H' tp = some (.tup [.int 0, .int 1]))
      ⟨none, none, none, none, [], rfl, (upd_ne nrt).trans upd_same, .nil, ((Same.refl H).new hrl).new htp, upd_same⟩ (fun i σ H' _ ⟨_, _, _, _, _, _, _, _, _, z⟩ => SqT.of z) ?_ ?_
    · rintro i xv σ H1 hx ⟨v2, v3, v4, v5, ws, rfl, h1, hq1, S1, ht1⟩
      obtain ⟨hi2, rfl⟩ := two_at hx
      refine ⟨by decide, fun ol hol => ?_⟩
      refine ⟨by show 2 ≤ sizeLine; decide, fun tq htq => ⟨tq, rfl, ⟨_, SqT.of upd_same⟩, ?_⟩⟩
      have not' : ol ≠ tq := fun z => by rw [← z, upd_same] at htq; cases htq
      refine for_tup (K := K) (a := tq) (xs := [.int 0, .int 1]) (fun m σ H' => ∃ (v4 v5 : Option V), σ = [some (.int (ph : Int)), some (.ref rl), some (.int (i : Int)), some (.ref ol), v4, v5, none, none, none, none, none] ∧
          H' ol = some (.lst (((List.range m).map (parF ph i)).map oV)) ∧ Same H1 H' ∧ H' tq = some (.tup [.int 0, .int 1]))
        ⟨v4, v5, rfl, (upd_ne not').trans upd_same, ((Same.refl H1).new hol).new htq, upd_same⟩ (fun i σ H' _ ⟨_, _, _, _, _, z⟩ => SqT.of z) ?_ ?_
      · rintro m yv σ H2 hy ⟨v4, v5, rfl, h2, S2, ht2⟩
        obtain ⟨hm2, rfl⟩ := two_at hy
        refine ⟨_, rfl, _, rfl, _, _, rfl, rfl, _, _, rfl, rfl, (by show (0 : Int) < 2; decide), ?_⟩
        have e0 : (V.int (((i : Int) + (m : Int)) % 2)) = V.int (((i + m) % 2 : Nat) : Int) := by rw [mod2]
        have hsz : (((List.range m).map (parF ph i)).map oV).length < sizeLine := by simp; exact Nat.lt_of_le_of_lt (show m ≤ 1000 by omega) (by decide)
        have hap : ((List.range (m + 1)).map (parF ph i)).map oV = ((List.range m).map (parF ph i)).map oV ++ [oV (parF ph i m)] := by
          rw [List.range_succ]; simp
        have nq : tq ≠ ol := ne_of ht2 h2 (by intro z; cases z)
        refine ⟨_, rfl, .inl ⟨rfl, _, SqL.of h2⟩, _, rfl, _, _, rfl, rfl, _, rfl, ?_⟩
        refine ite2 (fun hz => ?_) (fun hz => ?_)
        · refine ⟨_, rfl, _, _, rfl, rfl, ol, _, _, rfl, rfl, h2, hsz, _, _, rfl, ?_, S2.own hol, (upd_ne nq).trans ht2⟩
          have hz2 : 1 < ph := by have := of_decide_eq_true hz; omega
          have e : parF ph i m = some (1 + (i + m) % 2) := by unfold parF; rw [if_pos hz2]
          rw [upd_same, hap, e]
          unfold oV; rw [mod2]; norm_cast
        · have hz2 : ¬ 1 < ph := by intro q; apply hz; apply decide_eq_true; omega
          refine ⟨_, rfl, rfl, _, rfl, ?_⟩
          refine ite2 (fun hy0 => ?_) (fun hy0 => ?_)
          · refine ⟨ol, _, _, rfl, rfl, h2, hsz, _, _, rfl, ?_, S2.own hol, (upd_ne nq).trans ht2⟩
            have := of_decide_eq_true hy0
            injection this with q
            have e : parF ph i m = some 0 := by unfold parF; rw [if_neg hz2, if_pos (by omega)]
            rw [upd_same, hap, e]; rfl
          · refine ⟨ol, _, _, rfl, rfl, h2, hsz, _, _, rfl, ?_, S2.own hol, (upd_ne nq).trans ht2⟩
            have q : ¬ (i + m) % 2 = 0 := by
              intro z; apply hy0; apply decide_eq_true; show V.int (((i : Int) + (m : Int)) % 2) = V.int 0; rw [mod2, z]; rfl
            have e : parF ph i m = none := by unfold parF; rw [if_neg hz2, if_neg q]
            rw [upd_same, hap, e]; rfl
      · rintro σ H2 ⟨v4, v5, rfl, h2, S2, ht2⟩
        have h2r := S2 rl _ h1
        refine ⟨_, rfl, .inl ⟨rfl, _, SqL.of h2r⟩, _, rfl, ol, _, rfl, .inl ⟨SqL.of h2, fun tl htl => ?_⟩⟩
        have nt : rl ≠ tl := ne_of_none h2r htl
        have npt : tp ≠ tl := ne_of_none (S2 tp _ ht1) htl
        have npr : tp ≠ rl := ne_of ht1 h1 (by intro z; cases z)
        refine ⟨rl, _, _, rfl, rfl, (upd_ne nt).trans h2r, ?_, ?_⟩
        · have := paired_len hq1
          simp at this
          exact Nat.lt_of_le_of_lt (show ws.length ≤ 1000 by omega) (by decide)
        · have stN := SameT.new (o := .tup (((List.range 2).map (parF ph i)).map oV)) htl
          have stL := SameT.lst (ys := ws ++ [V.ref tl]) ((upd_ne (o := .tup (((List.range 2).map (parF ph i)).map oV)) nt).trans h2r)
          refine ⟨_, _, _, _, ws ++ [.ref tl], rfl, upd_same, ?_, ((S1.trans S2).new htl).own hrl, (upd_ne npr).trans ((upd_ne npt).trans (S2 tp _ ht1))⟩
          rw [List.range_succ, List.map_append]
          exact paired_snoc (paired_map hq1 fun _ _ x => ((x.t (Same.t S2)).t stN).t stL) ⟨tl, rfl, stL.seq (SqT.of upd_same)⟩
    · rintro σ H1 ⟨v2, v3, v4, v5, ws, rfl, h1, hq1, S1, ht1⟩
      refine ⟨_, rfl, rl, _, rfl, .inl ⟨SqL.of h1, fun tl htl => ?_⟩⟩
      refine ⟨by show 1 ≤ sizeLine; decide, fun fl hfl => ?_⟩
      have ntf : tl ≠ fl := fun z => by rw [← z, upd_same] at hfl; cases hfl
      have hfl1 : H1 fl = none := by rw [← hfl, upd_ne (Ne.symm ntf)]
      have hfl0 : H fl = none := S1.free hfl1
      have S2 : Same H1 (upd (upd H1 tl (.tup ws)) fl (.lst [.ref tl])) := ((Same.refl H1).new htl).new hfl
      refine ⟨_, rfl, 1, (ph : Int), rfl, ⟨by omega, by omega, by omega, by omega⟩, for_range (lo := 1) (fun p σ H' => ∃ (v2 v5 v7 v8 v9 v10 : Option V) (vs : List V), σ = [some (.int (ph : Int)), some (.ref rl), v2, v3, v4, v5, some (.ref fl), v7, v8, v9, v10] ∧
          H' fl = some (.lst vs) ∧ Paired (StAt K H') vs ((List.range 2).map (parR0 ph) :: (List.range p).flatMap fun p => (List.range 2).map (parS ph (p + 1))) ∧ Same H H')
        ⟨v2, v5, none, none, none, none, [.ref tl], rfl, upd_same, .cons ⟨tl, ws, rfl, SqT.of ((upd_ne ntf).trans upd_same), paired_map hq1 fun _ _ x => x.t (Same.t S2)⟩ .nil, S1.trans S2⟩ ?_ ?_⟩
      · rintro p σ H3 hp ⟨v2, v5, v7, v8, v9, v10, vs, rfl, h3, hq3, S3⟩
        have hp' : p < ph - 1 := by omega
        have hvl : vs.length ≤ 100 := by
          have := paired_len hq3
          rw [this, List.length_cons, flat_len _ 2 _ (by intro x _; simp)]
          simp; omega
        refine ⟨by show 2 ≤ sizeLine; decide, fun tr htr => ⟨tr, rfl, ⟨_, SqT.of upd_same⟩, ?_⟩⟩
        have nfr : fl ≠ tr := ne_of_none h3 htr
        have hph : (1 : Int) + (p : Int) = ((p + 1 : Nat) : Int) := by omega
        refine for_tup (K := K) (a := tr) (xs := [.int 0, .int 1]) (fun r σ H' => ∃ (v2 v5 v8 v9 v10 : Option V) (us : List V), σ = [some (.int (ph : Int)), some (.ref rl), v2, v3, v4, v5, some (.ref fl), some (.int (1 + (p : Int))), v8, v9, v10] ∧
            H' fl = some (.lst us) ∧ Paired (StAt K H') us (((List.range 2).map (parR0 ph) :: (List.range p).flatMap fun p => (List.range 2).map (parS ph (p + 1))) ++ (List.range r).map (parS ph (p + 1))) ∧ SameX fl H3 H' ∧ Same H H' ∧ H' tr = some (.tup [.int 0, .int 1]))
          ⟨v2, v5, v8, v9, v10, vs, rfl, (upd_ne nfr).trans h3, by simpa using paired_map hq3 fun _ _ x => x.t (SameT.new htr), (SameX.refl fl H3).new htr, S3.new htr, upd_same⟩ (fun i σ H' _ ⟨_, _, _, _, _, _, _, _, _, _, _, z⟩ => SqT.of z) ?_ ?_
        · rintro r rv σ H4 hrr ⟨v2, v5, v8, v9, v10, us, rfl, h4, hq4, X4, S4, ht4⟩
          obtain ⟨hr2, rfl⟩ := two_at hrr
          refine ⟨by decide, fun ql hql => ?_⟩
          refine ⟨by show 2 ≤ sizeLine; decide, fun tx htx => ⟨tx, rfl, ⟨_, SqT.of upd_same⟩, ?_⟩⟩
          have nqx : ql ≠ tx := fun z => by rw [← z, upd_same] at htx; cases htx
          refine for_tup (K := K) (a := tx) (xs := [.int 0, .int 1]) (fun i σ H' => ∃ (v2 v9 v10 : Option V) (zs : List V), σ = [some (.int (ph : Int)), some (.ref rl), v2, v3, v4, some (.int (r : Int)), some (.ref fl), some (.int (1 + (p : Int))), some (.ref ql), v9, v10] ∧
              H' ql = some (.lst zs) ∧ Paired (RowAt K H') zs ((List.range i).map (parR ph (p + 1) r)) ∧ Same H4 H' ∧ H' tx = some (.tup [.int 0, .int 1]))
            ⟨v2, v9, v10, [], rfl, (upd_ne nqx).trans upd_same, .nil, ((Same.refl H4).new hql).new htx, upd_same⟩ (fun i σ H' _ ⟨_, _, _, _, _, _, _, _, z⟩ => SqT.of z) ?_ ?_
          · rintro i xv σ H5 hx ⟨v2, v9, v10, zs, rfl, h5, hq5, S5, ht5⟩
            obtain ⟨hi2, rfl⟩ := two_at hx
            have hzl : zs.length < sizeLine := by
              have := paired_len hq5
              simp at this
              exact Nat.lt_of_le_of_lt (show zs.length ≤ 1000 by omega) (by decide)
            refine ⟨_, rfl, _, rfl, _, _, rfl, rfl, _, _, rfl, rfl, (by show (0 : Int) < 2; decide), ?_⟩
            -- the rest of the turn, once the entry is known
            have fin : ∀ (v2' v9' : Option V) (o : Option Nat), o = parA ph (p + 1) r i → ∀ D : Ends, (∀ (v2 v9 v10 : Option V) (zs : List V) H', H' ql = some (.lst zs) → Paired (RowAt K H') zs ((List.range (i + 1)).map (parR ph (p + 1) r)) → Same H4 H' → H' tx = some (.tup [.int 0, .int 1]) →
                D.nx [some (.int (ph : Int)), some (.ref rl), v2, v3, v4, some (.int (r : Int)), some (.ref fl), some (.int (1 + (p : Int))), some (.ref ql), v9, v10] H') →
                tDrop (tBM K "list" rAppend (tVar 8) (tCons (tTup (tCons (tVar 10) (tCons (tVar 10) tNil))) tNil)) D
                  [some (.int (ph : Int)), some (.ref rl), v2', v3, v4, some (.int (r : Int)), some (.ref fl), some (.int (1 + (p : Int))), some (.ref ql), v9', some (oV o)] H5 := by
              intro v2' v9' o ho D hD
              refine ⟨_, rfl, .inl ⟨rfl, _, SqL.of h5⟩, _, rfl, _, rfl, by show 2 ≤ sizeLine; decide, fun te hte => ?_⟩
              have nqe : ql ≠ te := ne_of_none h5 hte
              have nxe : tx ≠ te := ne_of_none ht5 hte
              have nxq : tx ≠ ql := ne_of ht5 h5 (by intro z; cases z)
              refine ⟨ql, _, _, rfl, rfl, (upd_ne nqe).trans h5, hzl, ?_⟩
              have stN := SameT.new (o := .tup [oV o, oV o]) hte
              have stL := SameT.lst (ys := zs ++ [V.ref te]) ((upd_ne (o := .tup [oV o, oV o]) nqe).trans h5)
              refine hD _ _ _ (zs ++ [.ref te]) _ upd_same ?_ ((S5.new hte).own hql) ((upd_ne nxq).trans ((upd_ne nxe).trans ht5))
              rw [List.range_succ, List.map_append]
              refine paired_snoc (paired_map hq5 fun _ _ x => (x.t stN).t stL) ⟨te, rfl, stL.seq (SqT.of ?_)⟩
              rw [upd_same, ho]; rfl
            have e0 : ((r : Int) + (i : Int)) % 2 = (((r + i) % 2 : Nat) : Int) := mod2 r i
            refine ⟨_, rfl, _, rfl, _, _, rfl, rfl, _, _, rfl, rfl, _, rfl, ?_⟩
            refine ite2 (fun hz => ?_) (fun hz => ?_)
            · have hz2 : (p + 1) + 1 < ph := by have := of_decide_eq_true hz; omega
              refine ⟨_, rfl, _, _, rfl, rfl, .inl ⟨by decide, by decide⟩, _, _, rfl, rfl, _, rfl, _, _, rfl, rfl, ?_⟩
              have e : parA ph (p + 1) r i = some (1 + 2 * (p + 1) + (r + i) % 2) := by unfold parA; rw [if_pos hz2]
              have e2 : V.int (1 + 2 * (1 + (p : Int)) + ((r : Int) + (i : Int)) % 2) = oV (parA ph (p + 1) r i) := by
                rw [e, e0, hph]; unfold oV; congr 1
              have g := fin (some (.int (i : Int))) (some (V.int (((r : Int) + (i : Int)) % 2))) _ rfl
              rw [← e2] at g
              exact g _ fun v2 v9 v10 zs H' a1 a2 a3 a4 => ⟨v2, v9, v10, zs, rfl, a1, a2, a3, a4⟩
            · have hz2 : ¬ (p + 1) + 1 < ph := by intro q; apply hz; apply decide_eq_true; omega
              refine ⟨_, rfl, rfl, _, rfl, ?_⟩
              refine ite2 (fun hy0 => ?_) (fun hy0 => ?_)
              · have := of_decide_eq_true hy0
                injection this with q
                have e : parA ph (p + 1) r i = some 0 := by unfold parA; rw [if_neg hz2, if_pos (by omega)]
                have g := fin (some (.int (i : Int))) (some (V.int (((r : Int) + (i : Int)) % 2))) (some 0) e.symm
                exact g _ fun v2 v9 v10 zs H' a1 a2 a3 a4 => ⟨v2, v9, v10, zs, rfl, a1, a2, a3, a4⟩
              · have q : ¬ (r + i) % 2 = 0 := by
                  intro z; apply hy0; apply decide_eq_true
                  show V.int (((r : Int) + (i : Int)) % 2) = V.int 0
                  rw [mod2, z]; rfl
                have e : parA ph (p + 1) r i = none := by unfold parA; rw [if_neg hz2, if_neg q]
                have g := fin (some (.int (i : Int))) (some (V.int (((r : Int) + (i : Int)) % 2))) none e.symm
                exact g _ fun v2 v9 v10 zs H' a1 a2 a3 a4 => ⟨v2, v9, v10, zs, rfl, a1, a2, a3, a4⟩
          · rintro σ H5 ⟨v2, v9, v10, zs, rfl, h5, hq5, S5, ht5⟩
            have h5f := S5 fl _ h4
            refine ⟨_, rfl, .inl ⟨rfl, _, SqL.of h5f⟩, _, rfl, ql, _, rfl, .inl ⟨SqL.of h5, fun tl2 htl2 => ?_⟩⟩
            have nt : fl ≠ tl2 := ne_of_none h5f htl2
            have nrt2 : tr ≠ tl2 := ne_of_none (S5 tr _ ht4) htl2
            have nrf : tr ≠ fl := ne_of ht4 h4 (by intro z; cases z)
            refine ⟨fl, _, _, rfl, rfl, (upd_ne nt).trans h5f, ?_, ?_⟩
            · have := paired_len hq4
              have e2 := paired_len hq3
              simp at this e2
              exact Nat.lt_of_le_of_lt (show us.length ≤ 1000 by omega) (by decide)
            · have stN := SameT.new (o := .tup zs) htl2
              have stL := SameT.lst (ys := us ++ [V.ref tl2]) ((upd_ne (o := .tup zs) nt).trans h5f)
              refine ⟨_, _, _, _, _, us ++ [.ref tl2], rfl, upd_same, ?_, ((X4.trans (Same.x S5)).new htl2).at, ((S4.trans S5).new htl2).own hfl0, (upd_ne nrf).trans ((upd_ne nrt2).trans (S5 tr _ ht4))⟩
              rw [show List.range (r + 1) = List.range r ++ [r] from List.range_succ, List.map_append, ← List.append_assoc]
              exact paired_snoc (paired_map hq4 fun _ _ x => ((x.t (Same.t S5)).t stN).t stL) ⟨tl2, zs, rfl, stL.seq (SqT.of upd_same), paired_map hq5 fun _ _ x => (x.t stN).t stL⟩
        · rintro σ H4 ⟨v2, v5, v8, v9, v10, us, rfl, h4, hq4, X4, S4, ht4⟩
          refine ⟨_, _, _, _, _, _, us, rfl, h4, ?_, S4⟩
          rw [show List.range (p + 1) = List.range p ++ [p] from List.range_succ, List.flatMap_append, List.flatMap_singleton]
          exact hq4
      · rintro σ H3 ⟨v2, v5, v7, v8, v9, v10, vs, rfl, h3, hq3, S3⟩
        refine ⟨_, rfl, fl, _, rfl, .inl ⟨SqL.of h3, fun t2 ht2 => ?_⟩⟩
        refine k _ _ (S3.new ht2) ⟨t2, vs, rfl, SqT.of upd_same, ?_⟩
        have e : ((ph : Int) - 1).toNat = ph - 1 := by omega
        rw [e] at hq3
        exact paired_map hq3 fun _ _ x => x.t (SameT.new ht2)
abbrev s_endless : Stmt := topS 21
abbrev N_endless : List Str := ["_law_start"]
theorem sc_endless : FnScope N_endless [] (defScope s_endless) := ⟨rfl, rfl, rfl, by decide +kernel, rfl, by decide +kernel, by decide +kernel⟩
theorem ok_endless {f : Addr} {fd : FuncData} (F : Fun K "_law_endless" "_law_endless" s_endless f fd) (T : Bt mg) : FnOk P w K mg base CX0 1 f fd [] (spEndless K) := by
  refine F.ok sc_endless (fun vs H Q E h => ?_) (fun cdv A outer s H vs Q E hr h => ?_)
  · obtain ⟨rfl, _⟩ := h
    rfl
  · obtain ⟨rfl, k⟩ := h
    refine ⟨_, (pss_cons (ps_set (i := 0) sc_endless.nd rfl (Or.inl rfl) (pe_tup (pa_cons (pe_tup (pa_cons pe_int (pa_cons pe_int pa_nil))) (pa_cons (pe_tup (pa_cons pe_int (pa_cons pe_non pa_nil))) (pa_cons (pe_tup (pa_cons pe_non (pa_cons pe_int pa_nil))) pa_nil)))))
(pss_one (ps_ret (pe_tup (pa_cons (pv 0) (pa_cons (pe_tup (pa_cons (pe_tup (pa_cons pe_int (pa_cons pe_int pa_nil))) (pa_cons (pe_tup (pa_cons pe_int (pa_cons pe_int pa_nil))) (pa_cons (pe_tup (pa_cons pe_non (pa_cons pe_non pa_nil))) pa_nil)))) (pa_cons (pe_tup (pa_cons (pe_tup (pa_cons pe_int (pa_cons pe_int pa_nil))) (pa_cons (pe_tup (pa_cons pe_non (pa_cons pe_non pa_nil))) (pa_cons (pe_tup (pa_cons pe_int (pa_cons pe_int pa_nil))) pa_nil)))) pa_nil))))))), ?_⟩
    have l2 : 2 ≤ sizeLine := by decide
    have l3 : 3 ≤ sizeLine := by decide
    refine ⟨l2, fun a1 n1 => ⟨l2, fun a2 n2 => ⟨l2, fun a3 n3 => ⟨l3, fun b1 m1 => ?_⟩⟩⟩⟩
    refine ⟨_, rfl, l2, fun a4 n4 => ⟨l2, fun a5 n5 => ⟨l2, fun a6 n6 => ⟨l3, fun b2 m2 => ?_⟩⟩⟩⟩
    refine ⟨l2, fun a7 n7 => ⟨l2, fun a8 n8 => ⟨l2, fun a9 n9 => ⟨l3, fun b3 m3 => ⟨l3, fun c0 mc => ?_⟩⟩⟩⟩⟩
    have q13 := SameT.new (o := .tup [V.ref b1, V.ref b2, V.ref b3]) mc
    have q12 := (SameT.new (o := .tup [V.ref a7, V.ref a8, V.ref a9]) m3).trans q13
    have q11 := (SameT.new (o := .tup [V.int 0, V.int 0]) n9).trans q12
    have q10 := (SameT.new (o := .tup [V.non, V.non]) n8).trans q11
    have q9 := (SameT.new (o := .tup [V.int 2, V.int 2]) n7).trans q10
    have q8 := (SameT.new (o := .tup [V.ref a4, V.ref a5, V.ref a6]) m2).trans q9
    have q7 := (SameT.new (o := .tup [V.non, V.non]) n6).trans q8
    have q6 := (SameT.new (o := .tup [V.int 0, V.int 0]) n5).trans q7
    have q5 := (SameT.new (o := .tup [V.int 1, V.int 1]) n4).trans q6
    have q4 := (SameT.new (o := .tup [V.ref a1, V.ref a2, V.ref a3]) m1).trans q5
    have q3 := (SameT.new (o := .tup [V.non, V.int 0]) n3).trans q4
    have q2 := (SameT.new (o := .tup [V.int 0, V.non]) n2).trans q3
    refine k _ _ ((((((((((((((Same.refl H).new n1).new n2).new n3).new m1).new n4).new n5).new n6).new m2).new n7).new n8).new n9).new m3).new mc) ⟨c0, _, rfl, SqT.of upd_same, ?_⟩
    refine .cons ⟨b1, _, rfl, q5.seq (SqT.of upd_same), .cons ⟨a1, rfl, q2.seq (SqT.of upd_same)⟩ (.cons ⟨a2, rfl, q3.seq (SqT.of upd_same)⟩ (.cons ⟨a3, rfl, q4.seq (SqT.of upd_same)⟩ .nil))⟩ ?_
    refine .cons ⟨b2, _, rfl, q9.seq (SqT.of upd_same), .cons ⟨a4, rfl, q6.seq (SqT.of upd_same)⟩ (.cons ⟨a5, rfl, q7.seq (SqT.of upd_same)⟩ (.cons ⟨a6, rfl, q8.seq (SqT.of upd_same)⟩ .nil))⟩ ?_
    exact .cons ⟨b3, _, rfl, q13.seq (SqT.of upd_same), .cons ⟨a7, rfl, q10.seq (SqT.of upd_same)⟩ (.cons ⟨a8, rfl, q11.seq (SqT.of upd_same)⟩ (.cons ⟨a9, rfl, q12.seq (SqT.of upd_same)⟩ .nil))⟩ .nil
end
end LA

namespace LA
open PySem L2
open C8 (Cal pe_c)
section
variable {P : Program} {w : World} {K : PySem.W.Frag} {mg : Str → Option Value} {base : Heap}
abbrev s_turned : Stmt := topS 23
abbrev N_turned : List Str := ["_law_judge_here", "_law_order", "_law_xs", "_law_ys", "_law_found", "_law_y", "_law_x", "_law_state", "_law_rows", "_law_row", "_law_entry"]
theorem sc_turned : FnScope N_turned ["_law_judge_here", "_law_order", "_law_xs", "_law_ys"] (defScope s_turned) := ⟨rfl, rfl, rfl, by decide +kernel, rfl, by decide +kernel, by decide +kernel⟩
abbrev t1 : Expr := asgV ((defBody s_turned).getD 0 noS)
abbrev t2 : Expr := arg0 (asgV ((defBody s_turned).getD 2 noS))
theorem ok_turned {f : Addr} {fd : FuncData} (F : Fun K "_law_turned" "_law_turned" s_turned f fd) (T : Bt mg) : FnOk P w K mg base CX0 1 f fd ["_law_judge_here", "_law_order", "_law_xs", "_law_ys"] (spTurned K) := by
  refine F.ok sc_turned (fun vs H Q E h => ?_) (fun cdv A outer s H vs Q E hr h => ?_)
  · obtain ⟨v, ol, xl, yl, j, nx, ny, os, xs, ys, rfl, _⟩ := h
    rfl
  · obtain ⟨v, ol, xl, yl, j, nx, ny, os, xs, ys, rfl, hj, ij, ho, hx, hy, po, px, py, k⟩ := h
    refine ⟨_, (pss_cons (ps_setLc (i := 4) (own := [("_law_state", 7)]) (g := (gName 7)) (tt := tYes) rfl sc_turned.nd rfl rfl (sw_true rfl rfl rfl (by decide +kernel)) (piLK K (pv 1)) (blkOk_by (N := N_turned) (sc := defScope s_turned) (by decide +kernel)) (fun _ _ _ _ _ => (pg_name (i := 7) sc_turned.nd rfl (Or.inl rfl))) (fun _ _ _ _ _ => pts_nil) (fun _ _ _ _ _ => (pe_lc (own := [("_law_x", 6)]) (g := (gName 6)) (tt := tYes) rfl sc_turned.nd (piLK K (pv 2)) (blkOk_by (N := N_turned) (sc := relS (lcS t1) (defScope s_turned)) (by decide +kernel)) (fun _ _ _ _ _ => (pg_name (i := 6) sc_turned.nd rfl (Or.inl rfl))) (fun _ _ _ _ _ => pts_nil) (fun _ _ _ _ _ => (pe_lc (own := [("_law_y", 5)]) (g := (gName 5)) (tt := tYes) rfl sc_turned.nd (piLK K (pv 3)) (blkOk_by (N := N_turned) (sc := relS (lcS (lcE t1)) (relS (lcS t1) (defScope s_turned))) (by decide +kernel)) (fun _ _ _ _ _ => (pg_name (i := 5) sc_turned.nd rfl (Or.inl rfl))) (fun _ _ _ _ _ => pts_nil) (fun _ _ _ _ _ => pe_non))))))
(pss_cons (ps_for PassesOwn.never rfl (pi_enumT (by rfl) T.enumerate (pa_cons (pv 0) pa_nil)) (pg_tup rfl (pgs_cons (pg_name (i := 7) sc_turned.nd rfl (Or.inl rfl)) (pgs_cons (pg_name (i := 8) sc_turned.nd rfl (Or.inl rfl)) pgs_nil)))
(pss_one (ps_for PassesOwn.never rfl (pi_enumT (by rfl) T.enumerate (pa_cons (pv 8) pa_nil)) (pg_tup rfl (pgs_cons (pg_name (i := 6) sc_turned.nd rfl (Or.inl rfl)) (pgs_cons (pg_name (i := 9) sc_turned.nd rfl (Or.inl rfl)) pgs_nil)))
(pss_one (ps_for PassesOwn.never rfl (pi_enumT (by rfl) T.enumerate (pa_cons (pv 9) pa_nil)) (pg_tup rfl (pgs_cons (pg_name (i := 5) sc_turned.nd rfl (Or.inl rfl)) (pgs_cons (pg_name (i := 10) sc_turned.nd rfl (Or.inl rfl)) pgs_nil)))
(pss_one (ps_asg (pe_ifExp (pt_cmpR op_isN (pv 10) pe_non (nomark _)) pe_non (pe_ix (ixLK K) (pv 1) (pv 10) (fun _ _ => rfl))) (pg_sub (pe_ix (ixLK K) (pe_ix (ixLK K) (pv 4) (pe_ix (ixLK K) (pv 1) (pv 7) (fun _ _ => rfl)) (fun _ _ => rfl)) (pe_ix (ixLK K) (pv 2) (pv 6) (fun _ _ => rfl)) (fun _ _ => rfl)) (pe_ix (ixLK K) (pv 3) (pv 5) (fun _ _ => rfl)) set_list))))))))
(pss_one (ps_ret (pe_callTy (tupK K) (by rfl) T.tuple (by decide +kernel) (pa_cons (pe_lc (own := [("_law_rows", 8)]) (g := (gName 8)) (tt := tYes) rfl sc_turned.nd (piLK K (pv 4)) (blkOk_by (N := N_turned) (sc := defScope s_turned) (by decide +kernel)) (fun _ _ _ _ _ => (pg_name (i := 8) sc_turned.nd rfl (Or.inl rfl))) (fun _ _ _ _ _ => pts_nil) (fun _ _ _ _ _ => (pe_callTy (tupK K) (by rfl) T.tuple (by decide +kernel) (pa_cons (pe_lc (own := [("_law_row", 9)]) (g := (gName 9)) (tt := tYes) rfl sc_turned.nd (piLK K (pv 8)) (blkOk_by (N := N_turned) (sc := relS (lcS t2) (defScope s_turned)) (by decide +kernel)) (fun _ _ _ _ _ => (pg_name (i := 9) sc_turned.nd rfl (Or.inl rfl))) (fun _ _ _ _ _ => pts_nil) (fun _ _ _ _ _ => (pe_callTy (tupK K) (by rfl) T.tuple (by decide +kernel) (pa_cons (pv 9) pa_nil)))) pa_nil)))) pa_nil)))))), ?_⟩
    have hn8 := ij.n8
    have hx4 := ij.x4
    have hy4 := ij.y4
    have len0 : (os.map V.int).length = j.length := by rw [List.length_map]; exact po.1
    have lenx : (xs.map V.int).length = nx := by rw [List.length_map]; exact px.1
    have leny : (ys.map V.int).length = ny := by rw [List.length_map]; exact py.1
    refine ⟨_, rfl, ol, rfl, ⟨_, SqL.of ho⟩, fun fl hfl => ?_⟩
    refine lc_list (K := K) (a := ol) (xs := os.map V.int) (fun m H' => ∃ (S : Nat → Addr) (A : Nat → Nat → Addr), Grid H' fl m nx ny S A (fun _ _ => List.replicate ny none) ∧ (∀ a b, a < m → b < nx → H (A a b) = none) ∧ (∀ a, a < m → S a ≠ fl) ∧ Same H H')
      ⟨fun _ => fl, fun _ _ => fl, ⟨upd_same, by omega, by omega, by omega, by omega, by omega, by omega⟩, by omega, by omega, (Same.refl H).new hfl⟩ (fun m H' _ ⟨_, _, _, _, _, z⟩ => SqL.of (z ol _ ho)) ?_ ?_
    · rintro m ov H1 hov ⟨S, A, G1, f1, SF, S1⟩
      have hm8 : m < j.length := by rw [← len0]; exact (List.getElem?_eq_some_iff.mp hov).1
      refine ⟨rfl, tyes ?_⟩
      refine ⟨_, rfl, xl, rfl, ⟨_, SqL.of (S1 xl _ hx)⟩, fun sl hsl => ?_⟩
      refine lc_list (K := K) (a := xl) (xs := xs.map V.int) (fun b H' => ∃ B : Nat → Addr, H' sl = some (.lst ((List.range b).map fun i => V.ref (B i))) ∧ (∀ i, i < b → H' (B i) = some (.lst ((List.replicate ny (none : Option Nat)).map oV)) ∧ H1 (B i) = none ∧ B i ≠ sl) ∧
          (∀ i i', i < b → i' < b → B i = B i' → i = i') ∧ Same H1 H')
        ⟨fun _ => sl, upd_same, by omega, by omega, (Same.refl H1).new hsl⟩ (fun m H' _ ⟨_, _, _, _, z⟩ => SqL.of (z xl _ (S1 xl _ hx))) ?_ ?_
      · rintro b xv H2 hxv ⟨B, h2, hB, iB, S2⟩
        have hb4 : b < nx := by rw [← lenx]; exact (List.getElem?_eq_some_iff.mp hxv).1
        refine ⟨rfl, tyes ?_⟩
        refine ⟨_, rfl, yl, rfl, ⟨_, SqL.of (S2 yl _ (S1 yl _ hy))⟩, fun rl hrl => ?_⟩
        refine lc_list (K := K) (a := yl) (xs := ys.map V.int) (fun c H' => H' rl = some (.lst ((List.replicate c (none : Option Nat)).map oV)) ∧ Same H2 H')
          ⟨upd_same, (Same.refl H2).new hrl⟩ (fun m H' _ ⟨_, z⟩ => SqL.of (z yl _ (S2 yl _ (S1 yl _ hy)))) ?_ ?_
        · rintro c yv H3 hyv ⟨h3, S3⟩
          have hc4 : c < ny := by rw [← leny]; exact (List.getElem?_eq_some_iff.mp hyv).1
          refine ⟨rfl, tyes ?_⟩
          refine ⟨_, h3, by simp; exact Nat.lt_of_le_of_lt (show c ≤ 1000 by omega) (by decide), ?_, S3.own hrl⟩
          rw [upd_same, List.replicate_succ']; simp [oV]
        · rintro H3 ⟨h3, S3⟩
          rw [leny] at h3
          have h3s := S3 sl _ h2
          refine ⟨_, h3s, by simp; exact Nat.lt_of_le_of_lt (show b ≤ 1000 by omega) (by decide), ?_⟩
          have nsr : sl ≠ rl := ne_of_none h2 hrl
          refine ⟨fun i => if i = b then rl else B i, ?_, fun i hi => ?_, fun i i' hi hi' e => ?_, (S2.trans S3).own hsl⟩
          · rw [upd_same, range_ext (f := fun i => V.ref (B i)) (x := V.ref rl) (fun i hi => by show V.ref (if i = b then rl else B i) = _; rw [if_neg (by omega)]) (by show V.ref (if b = b then rl else B b) = _; rw [if_pos rfl])]
          · by_cases e : i = b
            · simp only [if_pos e]
              exact ⟨by rw [upd_ne (Ne.symm nsr)]; exact h3, S2.free hrl, Ne.symm nsr⟩
            · simp only [if_neg e]
              obtain ⟨q1, q2, q3⟩ := hB i (by omega)
              exact ⟨by rw [upd_ne q3]; exact S3 _ _ q1, q2, q3⟩
          · by_cases e1 : i = b
            · by_cases e2 : i' = b
              · omega
              · simp only [if_pos e1, if_neg e2] at e
                have q := (hB i' (by omega)).1
                rw [← e, hrl] at q; cases q
            · by_cases e2 : i' = b
              · simp only [if_neg e1, if_pos e2] at e
                have q := (hB i (by omega)).1
                rw [e, hrl] at q; cases q
              · simp only [if_neg e1, if_neg e2] at e
                exact iB i i' (by omega) (by omega) e
      · rintro H2 ⟨B, h2, hB, iB, S2⟩
        rw [lenx] at h2 hB iB
        have h2f := S2 fl _ G1.top
        have nfs : fl ≠ sl := ne_of_none G1.top hsl
        refine ⟨_, h2f, by simp; exact Nat.lt_of_le_of_lt (show m ≤ 1000 by omega) (by decide), ?_⟩
        have B1 : ∀ i, i < nx → B i ≠ fl := fun i hi z => by have q := (hB i hi).2.1; rw [z, G1.top] at q; cases q
        have BA : ∀ i a b, i < nx → a < m → b < nx → B i ≠ A a b := fun i a b hi ha hb z => by have q := (hB i hi).2.1; rw [z, G1.rw a b ha hb] at q; cases q
        have BS : ∀ i a, i < nx → a < m → B i ≠ S a := fun i a hi ha z => by have q := (hB i hi).2.1; rw [z, G1.st a ha] at q; cases q
        have SS : ∀ a, a < m → S a ≠ sl := fun a ha z => by have q := G1.st a ha; rw [z, hsl] at q; cases q
        have AS : ∀ a b, a < m → b < nx → A a b ≠ sl := fun a b ha hb z => by have q := G1.rw a b ha hb; rw [z, hsl] at q; cases q
        refine ⟨fun a => if a = m then sl else S a, fun a b => if a = m then B b else A a b, ⟨?_, fun a ha => ?_, fun a b ha hb => ?_, fun a b a' b' ha hb ha' hb' e => ?_, fun a b a' ha hb ha' => ?_, fun a b ha hb => ?_, fun a b ha hb => ⟨by simp, by simp⟩⟩, fun a b ha hb => ?_, fun a ha => ?_, (S1.trans S2).own hfl⟩
        · rw [upd_same, range_ext (f := fun i => V.ref (S i)) (x := V.ref sl) (fun i hi => by show V.ref (if i = m then sl else S i) = _; rw [if_neg (by omega)]) (by show V.ref (if m = m then sl else S m) = _; rw [if_pos rfl])]
        · by_cases e : a = m
          · simp only [if_pos e]
            rw [upd_ne (Ne.symm nfs)]; exact h2
          · simp only [if_neg e]
            rw [upd_ne (SF a (by omega))]; exact S2 _ _ (G1.st a (by omega))
        · by_cases e : a = m
          · simp only [if_pos e]
            rw [upd_ne (B1 b hb)]; exact (hB b hb).1
          · simp only [if_neg e]
            rw [upd_ne (G1.nF a b (by omega) hb)]; exact S2 _ _ (G1.rw a b (by omega) hb)
        · by_cases e1 : a = m
          · by_cases e2 : a' = m
            · simp only [if_pos e1, if_pos e2] at e
              exact ⟨by omega, iB b b' hb hb' e⟩
            · simp only [if_pos e1, if_neg e2] at e
              exact absurd e (BA b a' b' hb (by omega) hb')
          · by_cases e2 : a' = m
            · simp only [if_neg e1, if_pos e2] at e
              exact absurd e.symm (BA b' a b hb' (by omega) hb)
            · simp only [if_neg e1, if_neg e2] at e
              exact G1.inj a b a' b' (by omega) hb (by omega) hb' e
        · by_cases e1 : a = m
          · by_cases e2 : a' = m
            · simp only [if_pos e1, if_pos e2]; exact (hB b hb).2.2
            · simp only [if_pos e1, if_neg e2]; exact BS b a' hb (by omega)
          · by_cases e2 : a' = m
            · simp only [if_neg e1, if_pos e2]; exact AS a b (by omega) hb
            · simp only [if_neg e1, if_neg e2]; exact G1.nS a b a' (by omega) hb (by omega)
        · by_cases e : a = m
          · simp only [if_pos e]; exact B1 b hb
          · simp only [if_neg e]; exact G1.nF a b (by omega) hb
        · by_cases e : a = m
          · simp only [if_pos e]; exact S1.free (hB b hb).2.1
          · simp only [if_neg e]; exact f1 a b (by omega) hb
        · by_cases e : a = m
          · simp only [if_pos e]; exact Ne.symm nfs
          · simp only [if_neg e]; exact SF a (by omega)
    · rintro H1 ⟨S, A, G1, f1, _, S1⟩
      rw [len0] at G1 f1
      obtain ⟨ja, jvs, rfl, hjs, hjp⟩ := hj
      have hjl := paired_len hjp
      refine ⟨_, rfl, ja, jvs, rfl, (Same.t S1).seq hjs, for_enumT (K := K) (a := ja) (xs := jvs) (fun i σ H' => ∃ (v5 v6 v7 v8 v9 v10 : Option V) (c : Nat → Nat → Rw), σ = [some (.ref ja), some (.ref ol), some (.ref xl), some (.ref yl), some (.ref fl), v5, v6, v7, v8, v9, v10] ∧ Grid H' fl j.length nx ny S A c ∧ Same H H')
        ⟨none, none, none, none, none, none, _, rfl, G1, S1⟩ (fun i σ H' _ ⟨_, _, _, _, _, _, _, _, _, z⟩ => (Same.t z).seq hjs) ?_ ?_⟩
      · rintro i sv σ H2 T2 hsv ⟨v5, v6, v7, v8, v9, v10, c2, rfl, G2, S2⟩ hT2
        obtain ⟨sd, hsd, sa, svs, rfl, hss, hsp⟩ := paired_at hjp hsv
        have hi8 : i < j.length := (List.getElem?_eq_some_iff.mp hsd).1
        obtain ⟨hsl1, hsl2⟩ := ij.st sd (List.mem_of_getElem? hsd)
        have hspl := paired_len hsp
        refine ⟨T2, _, rfl, SqT.of upd_same, rfl, _, _, rfl, _, _, rfl, rfl, ?_⟩
        have S2' := S2.new (o := .tup [.int ((i : Nat) : Int), .ref sa]) hT2
        refine ⟨_, rfl, sa, svs, rfl, (Same.t S2').seq hss, for_enumT (K := K) (a := sa) (xs := svs) (fun x σ H' => ∃ (v5 v6 v9 v10 : Option V) (c : Nat → Nat → Rw), σ = [some (.ref ja), some (.ref ol), some (.ref xl), some (.ref yl), some (.ref fl), v5, v6, some (.int (i : Int)), some (.ref sa), v9, v10] ∧ Grid H' fl j.length nx ny S A c ∧ Same H H')
          ⟨v5, v6, v9, v10, _, rfl, G2.same ((Same.refl H2).new hT2), S2'⟩ (fun i σ H' _ ⟨_, _, _, _, _, _, _, z⟩ => (Same.t z).seq hss) ?_ ?_⟩
        · rintro x rv σ H3 T3 hrv ⟨v5, v6, v9, v10, c3, rfl, G3, S3⟩ hT3
          obtain ⟨rd, hrd, ra, rfl, hrs⟩ := paired_at hsp hrv
          have hx4 : x < nx := by rw [← hsl1]; exact (List.getElem?_eq_some_iff.mp hrd).1
          obtain ⟨hrl1, hrl2⟩ := hsl2 rd (List.mem_of_getElem? hrd)
          refine ⟨T3, _, rfl, SqT.of upd_same, rfl, _, _, rfl, _, _, rfl, rfl, ?_⟩
          have S3' := S3.new (o := .tup [.int ((x : Nat) : Int), .ref ra]) hT3
          refine ⟨_, rfl, ra, rd.map oV, rfl, (Same.t S3').seq hrs, for_enumT (K := K) (a := ra) (xs := rd.map oV) (fun y σ H' => ∃ (v5 v10 : Option V) (c : Nat → Nat → Rw), σ = [some (.ref ja), some (.ref ol), some (.ref xl), some (.ref yl), some (.ref fl), v5, some (.int (x : Int)), some (.int (i : Int)), some (.ref sa), some (.ref ra), v10] ∧ Grid H' fl j.length nx ny S A c ∧ Same H H')
            ⟨v5, v10, _, rfl, G3.same ((Same.refl H3).new hT3), S3'⟩ (fun i σ H' _ ⟨_, _, _, _, _, z⟩ => (Same.t z).seq hrs) ?_ ?_⟩
          · rintro y ev σ H4 T4 hev ⟨v5, v10, c4, rfl, G4, S4⟩ hT4
            have hy4 : y < ny := by rw [← hrl1]; have := (List.getElem?_eq_some_iff.mp hev).1; simpa using this
            obtain ⟨o, ho1, rfl⟩ : ∃ o, rd[y]? = some o ∧ ev = oV o := by
              rw [List.getElem?_map] at hev
              cases e : rd[y]? with
              | none => rw [e] at hev; cases hev
              | some o => rw [e] at hev; exact ⟨o, rfl, (Option.some.inj hev).symm⟩
            refine ⟨T4, _, rfl, SqT.of upd_same, rfl, _, _, rfl, _, _, rfl, rfl, ?_⟩
            have S5 := S4.new (o := .tup [.int ((y : Nat) : Int), oV o]) hT4
            have G5 := G4.same ((Same.refl H4).new (o := .tup [.int ((y : Nat) : Int), oV o]) hT4)
            obtain ⟨a, ha1, ha2⟩ := at_perm po hi8
            obtain ⟨b, hb1, hb2⟩ := at_perm px hx4
            obtain ⟨d, hd1, hd2⟩ := at_perm py hy4
            have ho5 := S5 ol _ ho
            refine ⟨_, rfl, rfl, _, rfl, ?_⟩
            have fin : ∀ o' : Option Nat, (∀ m, o' = some m → m < j.length) → ∀ D : Ends, (∀ (v5 v10 : Option V) (c : Nat → Nat → Rw) H', Grid H' fl j.length nx ny S A c → Same H H' →
                D.nx [some (.ref ja), some (.ref ol), some (.ref xl), some (.ref yl), some (.ref fl), v5, some (.int (x : Int)), some (.int (i : Int)), some (.ref sa), some (.ref ra), v10] H') →
                gSub (tOp (rIxL K) (tOp (rIxL K) (tVar 4) (tOp (rIxL K) (tVar 1) (tVar 7))) (tOp (rIxL K) (tVar 2) (tVar 6))) (tOp (rIxL K) (tVar 3) (tVar 5)) rSetL (oV o')
                  [some (.ref ja), some (.ref ol), some (.ref xl), some (.ref yl), some (.ref fl), some (.int (y : Int)), some (.int (x : Int)), some (.int (i : Int)), some (.ref sa), some (.ref ra), some (oV o)]
                  (upd H4 T4 (.tup [.int ((y : Nat) : Int), oV o])) D.nx := by
              intro o' ho' D hD
              refine ⟨_, rfl, _, rfl, _, rfl, ol, _, _, _, rfl, rfl, SqL.of ho5, atI_nat ha1, fl, _, _, _, rfl, rfl, SqL.of G5.top, atI_nat (at_range ha2), ?_⟩
              refine ⟨_, rfl, _, rfl, xl, _, _, _, rfl, rfl, SqL.of (S5 xl _ hx), atI_nat hb1, S a, _, _, _, rfl, rfl, SqL.of (G5.st a ha2), atI_nat (at_range hb2), ?_⟩
              refine ⟨_, rfl, _, rfl, yl, _, _, _, rfl, rfl, SqL.of (S5 yl _ hy), atI_nat hd1, A a b, _, _, d, rfl, rfl, G5.rw a b ha2 hb2, ixN_nat (by rw [List.length_map, (G5.ok a b ha2 hb2).1]; exact hd2), ?_⟩
              exact hD _ _ _ _ (G5.put ha2 hb2 hd2 ho') (S5.own (f1 a b ha2 hb2))
            cases o with
            | none => exact ite2 (fun _ => fin none (fun m z => nomatch z) _ fun v5 v10 c H' g s' => ⟨v5, v10, c, rfl, g, s'⟩) (fun z => absurd rfl z)
            | some e =>
              refine ite2 (fun z => absurd (of_decide_eq_true z) (by intro q; cases q)) (fun _ => ?_)
              have he : e < j.length := hrl2 e (List.mem_of_getElem? ho1)
              obtain ⟨q, hq1, hq2⟩ := at_perm po he
              refine ⟨_, rfl, _, rfl, ol, _, _, _, rfl, rfl, SqL.of ho5, atI_nat hq1, ?_⟩
              exact fin (some q) (fun m z => by cases z; exact hq2) _ fun v5 v10 c H' g s' => ⟨v5, v10, c, rfl, g, s'⟩
          · rintro σ H4 ⟨v5, v10, c4, rfl, G4, S4⟩
            exact ⟨_, _, _, _, c4, rfl, G4, S4⟩
        · rintro σ H3 ⟨v5, v6, v9, v10, c3, rfl, G3, S3⟩
          exact ⟨_, _, _, _, _, _, c3, rfl, G3, S3⟩
      · rintro σ H2 ⟨v5, v6, v7, v8, v9, v10, c, rfl, G2, S2⟩
        refine ⟨_, rfl, fl, rfl, ⟨_, SqL.of G2.top⟩, fun D hD => ?_⟩
        refine lc_list (K := K) (a := fl) (xs := (List.range j.length).map fun a => V.ref (S a)) (fun m H' => ∃ zs, H' D = some (.lst zs) ∧ Paired (StAt K H') zs ((List.range m).map fun a => (List.range nx).map fun b => c a b) ∧ Same H2 H')
          ⟨[], upd_same, .nil, (Same.refl H2).new hD⟩ (fun m H' _ ⟨_, _, _, z⟩ => SqL.of (z fl _ G2.top)) ?_ ?_
        · rintro m sv H3 hsv ⟨zs, h3, hp3, S3⟩
          have hm8 : m < j.length := by have := (List.getElem?_eq_some_iff.mp hsv).1; simpa using this
          rw [at_range hm8] at hsv
          cases hsv
          refine ⟨rfl, tyes ?_⟩
          have hS := G2.st m hm8
          refine ⟨_, rfl, S m, rfl, ⟨_, SqL.of (S3 _ _ hS)⟩, fun D2 hD2 => ?_⟩
          refine lc_list (K := K) (a := S m) (xs := (List.range nx).map fun b => V.ref (A m b)) (fun b H' => ∃ ws, H' D2 = some (.lst ws) ∧ Paired (RowAt K H') ws ((List.range b).map fun b => c m b) ∧ Same H3 H')
            ⟨[], upd_same, .nil, (Same.refl H3).new hD2⟩ (fun b H' _ ⟨_, _, _, z⟩ => SqL.of (z _ _ (S3 _ _ hS))) ?_ ?_
          · rintro b rv H4 hrv ⟨ws, h4, hp4, S4⟩
            have hb4 : b < nx := by have := (List.getElem?_eq_some_iff.mp hrv).1; simpa using this
            rw [at_range hb4] at hrv
            cases hrv
            refine ⟨rfl, tyes ?_⟩
            have hR := S4 _ _ (S3 _ _ (G2.rw m b hm8 hb4))
            refine ⟨_, rfl, A m b, _, rfl, .inl ⟨SqL.of hR, fun tl htl => ?_⟩⟩
            have nt : D2 ≠ tl := ne_of_none h4 htl
            refine ⟨ws, (upd_ne nt).trans h4, ?_, ?_⟩
            · have := paired_len hp4
              simp at this
              exact Nat.lt_of_le_of_lt (show ws.length ≤ 1000 by omega) (by decide)
            · have stN := SameT.new (o := .tup ((c m b).map oV)) htl
              have stL := SameT.lst (ys := ws ++ [V.ref tl]) ((upd_ne (o := .tup ((c m b).map oV)) nt).trans h4)
              refine ⟨ws ++ [.ref tl], upd_same, ?_, (S4.new htl).own hD2⟩
              rw [List.range_succ, List.map_append]
              exact paired_snoc (paired_map hp4 fun _ _ x => (x.t stN).t stL) ⟨tl, rfl, stL.seq (SqT.of upd_same)⟩
          · rintro H4 ⟨ws, h4, hp4, S4⟩
            rw [List.length_map, List.length_range] at hp4
            refine ⟨D2, _, rfl, .inl ⟨SqL.of h4, fun tl htl => ?_⟩⟩
            have h4D := S4 D _ h3
            have nt : D ≠ tl := ne_of_none h4D htl
            refine ⟨zs, (upd_ne nt).trans h4D, ?_, ?_⟩
            · have := paired_len hp3
              simp at this
              exact Nat.lt_of_le_of_lt (show zs.length ≤ 1000 by omega) (by decide)
            · have stN := SameT.new (o := .tup ws) htl
              have stL := SameT.lst (ys := zs ++ [V.ref tl]) ((upd_ne (o := .tup ws) nt).trans h4D)
              refine ⟨zs ++ [.ref tl], upd_same, ?_, ((S3.trans S4).new htl).own hD⟩
              rw [List.range_succ, List.map_append]
              exact paired_snoc (paired_map hp3 fun _ _ x => ((x.t (Same.t S4)).t stN).t stL) ⟨tl, ws, rfl, stL.seq (SqT.of upd_same), paired_map hp4 fun _ _ x => (x.t stN).t stL⟩
        · rintro H3 ⟨zs, h3, hp3, S3⟩
          rw [List.length_map, List.length_range] at hp3
          refine ⟨D, _, rfl, .inl ⟨SqL.of h3, fun tl htl => ?_⟩⟩
          refine k _ _ _ ((S2.trans S3).new htl) ⟨tl, zs, rfl, SqT.of upd_same, paired_map hp3 fun _ _ x => x.t (SameT.new htl)⟩ ?_ (by simp)
          refine ⟨by simpa using ij.n1, by simpa using ij.n8, ij.x1, ij.x4, ij.y1, ij.y4, fun s' hs' => ?_⟩
          simp only [List.mem_map, List.mem_range] at hs'
          obtain ⟨a, ha, rfl⟩ := hs'
          refine ⟨by simp, fun r hr => ?_⟩
          simp only [List.mem_map, List.mem_range] at hr
          obtain ⟨b, hb, rfl⟩ := hr
          obtain ⟨q1, q2⟩ := G2.ok a b ha hb
          exact ⟨q1, by simpa using q2⟩
end
end LA

namespace LA
open PySem L2
open C8 (Cal pe_c)
section
variable {P : Program} {w : World} {K : PySem.W.Frag} {mg : Str → Option Value} {base : Heap}
theorem pe_c0 {X : Cx} {k j : Nat} {x : Str} {sp : Sp} {p pos : Pos} (c : Cal X.prog X.w X.K X.mg X.base k x sp []) (hr : Room j X.A) (hk : k ≤ j) (hg : Gl X x) (hdb : (x == ("__debug__" : Str)) = false := by decide) :
    PE X (.Call (.Name x p) [] [] pos) (tCall sp [] E0 tNil) := by
  obtain ⟨f, fd, ps, ds, F, hm, kp, b, d⟩ := c.ex
  exact pe_call0 F (hr.mono hk) hg hm kp b d pass0 hdb
abbrev s_known : Stmt := topS 22
abbrev N_known : List Str := ["_law_pot_here", "_law_far", "_law_phases", "_law_some", "_law_judge_here", "_law_least", "_law_order", "_law_xs", "_law_ys"]
theorem sc_known : FnScope N_known ["_law_pot_here"] (defScope s_known) := ⟨rfl, rfl, rfl, by decide +kernel, rfl, by decide +kernel, by decide +kernel⟩
theorem ok_known {f : Addr} {fd : FuncData} (F : Fun K "_law_known" "_law_known" s_known f fd) (T : Bt mg) (c_take : Cal P w K mg base 1 "_law_take" spTake []) (c_of : Cal P w K mg base 2 "_law_of" spOf []) (c_mixed : Cal P w K mg base 2 "_law_mixed" (spMixed K) [])
    (c_further : Cal P w K mg base 2 "_law_further" (spFurther K) []) (c_parity : Cal P w K mg base 1 "_law_parity" (spParity K) []) (c_endless : Cal P w K mg base 1 "_law_endless" (spEndless K) []) (c_turned : Cal P w K mg base 1 "_law_turned" (spTurned K) []) :
    FnOk P w K mg base CX0 3 f fd ["_law_pot_here"] (spKnown K) := by
  refine F.ok sc_known (fun vs H Q E h => ?_) (fun cdv A outer s H vs Q E hr h => ?_)
  · obtain ⟨p, n, rfl, _⟩ := h
    rfl
  · obtain ⟨p, n, rfl, hP, hn, k⟩ := h
    refine ⟨_, (pss_cons (ps_par (i := 1) (j := 2) rfl sc_known.nd rfl rfl (by decide) rfl rfl (pa_cons (pe_op op_add pe_int (pe_c c_take hr (by decide) rfl (pa_cons (pv 0) (pa_cons pe_int pa_nil)))) (pa_cons (pe_op op_add pe_int (pe_c c_take hr (by decide) rfl (pa_cons (pv 0) (pa_cons pe_int pa_nil)))) pa_nil)) rfl)
(pss_cons (ps_set (i := 3) sc_known.nd rfl (Or.inl rfl) (pe_lst (pa_cons (pe_tup (pa_cons (pe_c c_further hr (by decide) rfl (pa_cons pe_int (pa_cons (pv 1) pa_nil))) (pa_cons (pv 1) pa_nil))) (pa_cons (pe_tup (pa_cons (pe_c c_further hr (by decide) rfl (pa_cons pe_int (pa_cons pe_int pa_nil))) (pa_cons pe_int pa_nil))) (pa_cons (pe_tup (pa_cons (pe_c c_parity hr (by decide) rfl (pa_cons (pv 2) pa_nil)) (pa_cons (pe_op op_sub (pv 2) pe_int) pa_nil))) pa_nil)))))
(pss_cons (ps_expr (pe_bm PySem.F.plainAttrs_list PySem.F.slot_list_append PySem.F.type_list_append mt_append (pv 3) (pa_cons (pe_tup (pa_cons (pe_c0 c_endless hr (by decide) rfl) (pa_cons pe_non pa_nil))) pa_nil)))
(pss_cons (ps_expr (pe_bm PySem.F.plainAttrs_list PySem.F.slot_list_append PySem.F.type_list_append mt_append (pv 3) (pa_cons (pe_tup (pa_cons (pe_tup (pa_cons (pe_tup (pa_cons (pe_tup (pa_cons pe_int (pa_cons pe_int pa_nil))) (pa_cons (pe_tup (pa_cons pe_non (pa_cons pe_non pa_nil))) pa_nil))) pa_nil)) (pa_cons pe_non pa_nil))) pa_nil)))
(pss_cons (ps_expr (pe_bm PySem.F.plainAttrs_list PySem.F.slot_list_append PySem.F.type_list_append mt_append (pv 3) (pa_cons (pe_tup (pa_cons (pe_tup (pa_cons (pe_tup (pa_cons (pe_tup (pa_cons pe_non (pa_cons pe_int pa_nil))) (pa_cons (pe_tup (pa_cons pe_int (pa_cons pe_non pa_nil))) pa_nil))) pa_nil)) (pa_cons pe_int pa_nil))) pa_nil)))
(pss_cons (ps_asg (pe_c c_of hr (by decide) rfl (pa_cons (pv 0) (pa_cons (pv 3) pa_nil))) (pg_tup rfl (pgs_cons (pg_name (i := 4) sc_known.nd rfl (Or.inl rfl)) (pgs_cons (pg_name (i := 5) sc_known.nd rfl (Or.inl rfl)) pgs_nil))))
(pss_cons (ps_set (i := 6) sc_known.nd rfl (Or.inl rfl) (pe_op op_cat (pe_lst (pa_cons pe_int pa_nil)) (pe_c c_mixed hr (by decide) rfl (pa_cons (pv 0) (pa_cons (pe_listRg rfl (by rfl) T.list (prg_2 (by rfl) T.range pe_int (pe_callB (lenK K) (by rfl) T.len PySem.boot_len (pa_cons (pv 4) pa_nil)))) pa_nil)))))
(pss_cons (ps_par (i := 7) (j := 8) rfl sc_known.nd rfl rfl (by decide) rfl rfl (pa_cons (pe_c c_mixed hr (by decide) rfl (pa_cons (pv 0) (pa_cons (pe_listRg rfl (by rfl) T.list (prg_1 (by rfl) T.range (pe_callB (lenK K) (by rfl) T.len PySem.boot_len (pa_cons (pe_ix (ixTK K) (pv 4) pe_int (fun _ _ => rfl)) pa_nil)))) pa_nil))) (pa_cons (pe_c c_mixed hr (by decide) rfl (pa_cons (pv 0) (pa_cons (pe_listRg rfl (by rfl) T.list (prg_1 (by rfl) T.range (pe_callB (lenK K) (by rfl) T.len PySem.boot_len (pa_cons (pe_ix (ixTK K) (pe_ix (ixTK K) (pv 4) pe_int (fun _ _ => rfl)) pe_int (fun _ _ => rfl)) pa_nil)))) pa_nil))) pa_nil)) rfl)
(pss_one (ps_ret (pe_tup (pa_cons (pe_c c_turned hr (by decide) rfl (pa_cons (pv 4) (pa_cons (pv 6) (pa_cons (pv 7) (pa_cons (pv 8) pa_nil))))) (pa_cons (pv 5) pa_nil))))))))))))), ?_⟩
    have l1 : 1 ≤ sizeLine := by decide
    have l2 : 2 ≤ sizeLine := by decide
    have l3 : 3 ≤ sizeLine := by decide
    refine ⟨_, rfl, p, 2, n, rfl, by omega, by omega, hP, by omega, fun H1 r1 s1 P1 q1 => ⟨_, _, rfl, rfl, ?_⟩⟩
    refine ⟨_, rfl, p, 4, n + 1, rfl, by omega, by omega, P1, by omega, fun H2 r2 s2 P2 q2 => ⟨_, _, rfl, rfl, _, _, rfl, ?_⟩⟩
    -- the list of the six
    refine ⟨_, rfl, 2, 1 + r1, by rw [← c1]; rfl, by omega, by omega, by omega, by omega, ?_, fun H3 w1 S3 j1 => ⟨_, rfl, l2, fun t1 ht1 => ?_⟩⟩
    · have : r1 < 2 := by omega
      match r1, this with
      | 0, _ => decide
      | 1, _ => decide
    refine ⟨3, 1, rfl, by omega, by omega, by omega, by omega, by decide, fun H4 w2 S4 j2 => ⟨l2, fun t2 ht2 => ?_⟩⟩
    refine ⟨_, rfl, 1 + r2, by rw [← c1]; rfl, by omega, by omega, fun H5 w3 S5 j3 => ⟨_, rfl, _, _, rfl, rfl, l2, fun t3 ht3 => ⟨l3, fun l hl => ?_⟩⟩⟩
    have P3 := P2
    have n1p : t1 ≠ p := (PotAt.ne (let ⟨a, b, c, z, r⟩ := P2; ⟨a, b, c, S3 _ _ z, r⟩ : PotAt H3 p (n + 2)) ht1)
    -- every pair of the list is one of a judge and a number
    have S23 : Same H2 (upd H3 t1 (.tup [w1, .int (1 + (r1 : Int))])) := S3.new ht1
    have A1 : PairAt K (upd H3 t1 (.tup [w1, .int (1 + (r1 : Int))])) (.ref t1) := by
      refine ⟨t1, w1, _, _, 2, 2, rfl, SqT.of upd_same, j1.t (SameT.new ht1), furJ_is (by omega) (by omega) (by omega) ?_, by omega, by omega, .inr ⟨1 + r1, c1 r1, by omega⟩⟩
      have : r1 < 2 := by omega
      match r1, this with
      | 0, _ => decide
      | 1, _ => decide
    have S24 := (S23.trans S4).new (o := .tup [w2, .int 1]) ht2
    have A1b := (A1.t (Same.t S4)).t (SameT.new (o := .tup [w2, .int 1]) ht2)
    have A2 : PairAt K (upd H4 t2 (.tup [w2, .int 1])) (.ref t2) := ⟨t2, w2, _, _, 3, 3, rfl, SqT.of upd_same, j2.t (SameT.new ht2), furJ_is (by omega) (by omega) (by omega) (by decide), by omega, by omega, .inr ⟨1, rfl, by omega⟩⟩
    have S25 := (S24.trans S5).new (o := .tup [w3, .int (1 + (r2 : Int) - 1)]) ht3
    have U5 := (Same.t S5).trans (SameT.new (o := .tup [w3, .int (1 + (r2 : Int) - 1)]) ht3)
    have A3 : PairAt K (upd H5 t3 (.tup [w3, .int (1 + (r2 : Int) - 1)])) (.ref t3) := ⟨t3, w3, _, _, 2, 2, rfl, SqT.of upd_same, j3.t (SameT.new ht3), parJ_is (by omega) (by omega), by omega, by omega, .inr ⟨r2, by congr 1; omega, by omega⟩⟩
    have S26 := S25.new (o := .lst [.ref t1, .ref t2, .ref t3]) hl
    have hl2 : H2 l = none := S25.free hl
    have U6 := SameT.new (o := .lst [V.ref t1, .ref t2, .ref t3]) hl
    have all6 : ∀ v ∈ ([.ref t1, .ref t2, .ref t3] : List V), PairAt K (upd (upd H5 t3 (.tup [w3, .int (1 + (r2 : Int) - 1)])) l (.lst [.ref t1, .ref t2, .ref t3])) v := by
      intro v hv
      simp at hv
      rcases hv with rfl | rfl | rfl
      · exact (A1b.t U5).t U6
      · exact (A2.t U5).t U6
      · exact A3.t U6
    have hl6 := upd_same (H := upd H5 t3 (.tup [w3, .int (1 + (r2 : Int) - 1)])) (a := l) (o := .lst [V.ref t1, .ref t2, .ref t3])
    generalize upd (upd H5 t3 (.tup [w3, .int (1 + (r2 : Int) - 1)])) l (.lst [.ref t1, .ref t2, .ref t3]) = H6 at all6 hl6 S26 ⊢
    -- the endless one
    refine ⟨_, rfl, .inl ⟨rfl, _, SqL.of hl6⟩, rfl, fun H7 w4 S7 j4 => ⟨l2, fun t4 ht4 => ?_⟩⟩
    have hl7 := S7 l _ hl6
    have nl4 : l ≠ t4 := ne_of_none hl7 ht4
    refine ⟨l, _, _, rfl, rfl, (upd_ne nl4).trans hl7, by show 3 < sizeLine; decide, ?_⟩
    have U7 := (SameT.new (o := .tup [w4, .non]) ht4).trans (SameT.lst (ys := [.ref t1, .ref t2, .ref t3] ++ [V.ref t4]) ((upd_ne (o := .tup [w4, .non]) nl4).trans hl7))
    have S28 := ((S26.trans S7).new (o := .tup [w4, .non]) ht4).own (o := .lst ([.ref t1, .ref t2, .ref t3] ++ [V.ref t4])) hl2
    have hl8 := upd_same (H := upd H7 t4 (.tup [w4, .non])) (a := l) (o := .lst ([.ref t1, .ref t2, .ref t3] ++ [V.ref t4]))
    have all8 : ∀ v ∈ ([.ref t1, .ref t2, .ref t3] ++ [V.ref t4] : List V), PairAt K (upd (upd H7 t4 (.tup [w4, .non])) l (.lst ([.ref t1, .ref t2, .ref t3] ++ [V.ref t4]))) v := by
      intro v hv
      rcases List.mem_append.mp hv with hv | hv
      · exact ((all6 v hv).t (Same.t S7)).t U7
      · simp at hv
        subst hv
        exact ⟨t4, w4, _, _, 3, 2, rfl, (SameT.lst ((upd_ne (o := .tup [w4, .non]) nl4).trans hl7)).seq (SqT.of upd_same), j4.t U7, endJ_is, by omega, by omega, .inl rfl⟩
    generalize upd (upd H7 t4 (.tup [w4, .non])) l (.lst ([.ref t1, .ref t2, .ref t3] ++ [V.ref t4])) = H8 at all8 hl8 S28 ⊢
    -- one state, letters without an output
    refine ⟨_, rfl, .inl ⟨rfl, _, SqL.of hl8⟩, l2, fun a1 m1 => ⟨l2, fun a2 m2 => ⟨l2, fun b1 m3 => ⟨l1, fun d1 m4 => ⟨l2, fun t5 m5 => ?_⟩⟩⟩⟩⟩
    have S9 := (((((Same.refl H8).new (o := .tup [.int 0, .int 0]) m1).new (o := .tup [.non, .non]) m2).new (o := .tup [.ref a1, .ref a2]) m3).new (o := .tup [.ref b1]) m4).new (o := .tup [.ref d1, .non]) m5
    have u5 := SameT.new (o := .tup [.ref d1, .non]) m5
    have u4 := (SameT.new (o := .tup [.ref b1]) m4).trans u5
    have u3 := (SameT.new (o := .tup [.ref a1, .ref a2]) m3).trans u4
    have u2 := (SameT.new (o := .tup [.non, .non]) m2).trans u3
    have A5 : PairAt K (upd (upd (upd (upd (upd H8 a1 (.tup [.int 0, .int 0])) a2 (.tup [.non, .non])) b1 (.tup [.ref a1, .ref a2])) d1 (.tup [.ref b1])) t5 (.tup [.ref d1, .non])) (.ref t5) :=
      ⟨t5, _, _, [[[some 0, some 0], [none, none]]], 2, 2, rfl, SqT.of upd_same, ⟨d1, _, rfl, u5.seq (SqT.of upd_same), .cons ⟨b1, _, rfl, u4.seq (SqT.of upd_same), .cons ⟨a1, rfl, u2.seq (SqT.of upd_same)⟩ (.cons ⟨a2, rfl, u3.seq (SqT.of upd_same)⟩ .nil)⟩ .nil⟩, isJb_is (by decide), by omega, by omega, .inl rfl⟩
    have hl9 := S9 l _ hl8
    refine ⟨l, _, _, rfl, rfl, hl9, by show 4 < sizeLine; decide, ?_⟩
    have U9 := SameT.lst (ys := ([.ref t1, .ref t2, .ref t3] ++ [V.ref t4]) ++ [V.ref t5]) hl9
    generalize upd (upd (upd (upd (upd H8 a1 (.tup [.int 0, .int 0])) a2 (.tup [.non, .non])) b1 (.tup [.ref a1, .ref a2])) d1 (.tup [.ref b1])) t5 (.tup [.ref d1, .non]) = H9 at A5 S9 hl9 U9 ⊢
    have S29 := (S28.trans S9).own (o := .lst (([.ref t1, .ref t2, .ref t3] ++ [V.ref t4]) ++ [V.ref t5])) hl2
    have all9 : ∀ v ∈ (([.ref t1, .ref t2, .ref t3] ++ [V.ref t4]) ++ [V.ref t5] : List V), PairAt K (upd H9 l (.lst (([.ref t1, .ref t2, .ref t3] ++ [V.ref t4]) ++ [V.ref t5]))) v := by
      intro v hv
      rcases List.mem_append.mp hv with hv | hv
      · exact ((all8 v hv).t (Same.t S9)).t U9
      · simp at hv
        subst hv
        exact A5.t U9
    have hlA := upd_same (H := H9) (a := l) (o := .lst (([.ref t1, .ref t2, .ref t3] ++ [V.ref t4]) ++ [V.ref t5]))
    generalize upd H9 l (.lst (([.ref t1, .ref t2, .ref t3] ++ [V.ref t4]) ++ [V.ref t5])) = HA at all9 hlA S29 ⊢
    -- one state, the inputs themselves
    refine ⟨_, rfl, .inl ⟨rfl, _, SqL.of hlA⟩, l2, fun a3 m6 => ⟨l2, fun a4 m7 => ⟨l2, fun b2 m8 => ⟨l1, fun d2 m9 => ⟨l2, fun t6 m10 => ?_⟩⟩⟩⟩⟩
    have SB := (((((Same.refl HA).new (o := .tup [.non, .int 0]) m6).new (o := .tup [.int 0, .non]) m7).new (o := .tup [.ref a3, .ref a4]) m8).new (o := .tup [.ref b2]) m9).new (o := .tup [.ref d2, .int 0]) m10
    have e5 := SameT.new (o := .tup [.ref d2, .int 0]) m10
    have e4 := (SameT.new (o := .tup [.ref b2]) m9).trans e5
    have e3 := (SameT.new (o := .tup [.ref a3, .ref a4]) m8).trans e4
    have e2 := (SameT.new (o := .tup [.int 0, .non]) m7).trans e3
    have A6 : PairAt K (upd (upd (upd (upd (upd HA a3 (.tup [.non, .int 0])) a4 (.tup [.int 0, .non])) b2 (.tup [.ref a3, .ref a4])) d2 (.tup [.ref b2])) t6 (.tup [.ref d2, .int 0])) (.ref t6) :=
      ⟨t6, _, _, [[[none, some 0], [some 0, none]]], 2, 2, rfl, SqT.of upd_same, ⟨d2, _, rfl, e5.seq (SqT.of upd_same), .cons ⟨b2, _, rfl, e4.seq (SqT.of upd_same), .cons ⟨a3, rfl, e2.seq (SqT.of upd_same)⟩ (.cons ⟨a4, rfl, e3.seq (SqT.of upd_same)⟩ .nil)⟩ .nil⟩, isJb_is (by decide), by omega, by omega, .inr ⟨0, rfl, by omega⟩⟩
    have hlB := SB l _ hlA
    refine ⟨l, _, _, rfl, rfl, hlB, by show 5 < sizeLine; decide, ?_⟩
    have UB := SameT.lst (ys := (([.ref t1, .ref t2, .ref t3] ++ [V.ref t4]) ++ [V.ref t5]) ++ [V.ref t6]) hlB
    generalize upd (upd (upd (upd (upd HA a3 (.tup [.non, .int 0])) a4 (.tup [.int 0, .non])) b2 (.tup [.ref a3, .ref a4])) d2 (.tup [.ref b2])) t6 (.tup [.ref d2, .int 0]) = HB at A6 SB hlB UB ⊢
    have S2B := (S29.trans SB).own (o := .lst ((([.ref t1, .ref t2, .ref t3] ++ [V.ref t4]) ++ [V.ref t5]) ++ [V.ref t6])) hl2
    have allB : ∀ v ∈ ((([.ref t1, .ref t2, .ref t3] ++ [V.ref t4]) ++ [V.ref t5]) ++ [V.ref t6] : List V), PairAt K (upd HB l (.lst ((([.ref t1, .ref t2, .ref t3] ++ [V.ref t4]) ++ [V.ref t5]) ++ [V.ref t6]))) v := by
      intro v hv
      rcases List.mem_append.mp hv with hv | hv
      · exact ((all9 v hv).t (Same.t SB)).t UB
      · simp at hv
        subst hv
        exact A6.t UB
    have hlC := upd_same (H := HB) (a := l) (o := .lst ((([.ref t1, .ref t2, .ref t3] ++ [V.ref t4]) ++ [V.ref t5]) ++ [V.ref t6]))
    generalize upd HB l (.lst ((([.ref t1, .ref t2, .ref t3] ++ [V.ref t4]) ++ [V.ref t5]) ++ [V.ref t6])) = HC at allB hlC S2B ⊢
    have PC : PotAt HC p (n + 2) := let ⟨a, b, c, z, r⟩ := P2; ⟨a, b, c, S2B _ _ z, r⟩
    have nlp : l ≠ p := fun z => by obtain ⟨_, z2⟩ := P2.lst; rw [← z, hl2] at z2; cases z2
    -- one of them
    refine ⟨_, rfl, _, rfl, p, l, _, n + 2, rfl, hlC, nlp, by simp, by simp, PC, by omega, fun HD i v sD PD hv => ?_⟩
    obtain ⟨t, vj, ls, j, nx, ny, rfl, hq, hj, ij, hnx, hny, hls⟩ := (allB v (List.mem_of_getElem? hv)).t (PC.t sD)
    refine ⟨t, _, rfl, hq, rfl, _, _, rfl, _, _, rfl, rfl, ?_⟩
    have XD : SameX p H HD := ((s1.trans s2).trans (Same.x S2B)).trans sD
    clear all6 all8 all9 allB hl6 hl7 hl8 hl9 hlA hlB S26 S28 S29 S7 S9 SB S2B U7 U9 UB A5 A6 u2 u3 u4 u5 e2 e3 e4 e5 A1 A2 A3 A1b S23 S24 S25 U5 U6
    have hj0 := hj
    obtain ⟨ja, jvs, rfl, hjs, hjp⟩ := hj
    have hjl := paired_len hjp
    have hn1 := ij.n1
    have hn8 := ij.n8
    have hx1 := ij.x1
    have hx4 := ij.x4
    have hy1 := ij.y1
    have hy4 := ij.y4
    -- the order of the states
    refine ⟨l1, fun o0 ho0 => ?_⟩
    have no0p : o0 ≠ p := PD.ne ho0
    have SE := (Same.refl HD).new (o := .lst [.int 0]) ho0
    refine ⟨_, rfl, _, rfl, ja, _, rfl, .inr ((Same.t SE).seq hjs), _, _, rfl, rfl, ⟨by omega, by omega, by omega, by omega, by omega⟩, fun q hq2 => ?_⟩
    have nqp : q ≠ p := (PD.new no0p).ne hq2
    have nqo : o0 ≠ q := fun z => by rw [← z, upd_same] at hq2; cases hq2
    rw [rgV_1, hjl]
    refine ⟨p, q, _, n + 3, rfl, upd_same, nqp, by simp; omega, (PD.new no0p).new nqp, by simp; omega, fun HE ml ms sE PE hml0 hml hperm => ?_⟩
    have hln : ((List.range (j.length - 1)).map fun i => 1 + ((i : Nat) : Int)).length = j.length - 1 := by simp
    have hoE : HE o0 = some (.lst [.int 0]) := sE o0 _ ((upd_ne nqo).trans upd_same) no0p
    refine ⟨o0, ml, _, _, rfl, rfl, hoE, hml, ?_, fun ol hol => ?_⟩
    · have := hperm.length_eq
      simp at this ⊢
      exact Nat.le_trans (show 1 + ms.length ≤ 1000 by omega) (by decide)
    have XE : SameX p H HE := ((XD.new ho0).new hq2).trans sE
    have hol2 : (upd HE ol (.lst ([.int 0] ++ ms.map V.int))) ol = some (.lst ((0 :: ms).map V.int)) := by rw [upd_same]; rfl
    have po := perm_rg1 hn1 hperm
    have nolp : ol ≠ p := PE.ne hol
    have PF : PotAt (upd HE ol (.lst ([.int 0] ++ ms.map V.int))) p (n + 3 + 7) := (PE.new nolp).mono (by rw [hln]; omega)
    have XF : SameX p H (upd HE ol (.lst ([.int 0] ++ ms.map V.int))) := XE.new hol
    have TF : SameT HD (upd HE ol (.lst ([.int 0] ++ ms.map V.int))) := ((Same.t SE).trans (SameT.new hq2)).trans (((PotAt.t ((PD.new no0p).new nqp) sE)).trans (SameT.new hol))
    generalize upd HE ol (.lst ([.int 0] ++ ms.map V.int)) = HF at hol2 PF XF TF ⊢
    -- the order of the input letters
    have hjF := hj0.t TF
    obtain ⟨jaF, jvsF, ejF, hjsF, hjpF⟩ := hjF
    cases ejF
    obtain ⟨s0, hs0⟩ : ∃ s0, j[0]? = some s0 := ⟨j[0], by simp⟩
    obtain ⟨sv, hsv, sa, svs, rfl, hss, hsp⟩ := paired_at' hjpF hs0
    obtain ⟨hsl1, hsl2⟩ := ij.st s0 (List.mem_of_getElem? hs0)
    have hspl := paired_len hsp
    refine ⟨_, rfl, _, rfl, ja, _, _, _, rfl, rfl, hjsF, atI_nat (j := 0) hsv, sa, _, rfl, .inr hss, _, rfl, ⟨by omega, by omega, by omega, by omega, by omega⟩, fun qx hqx => ?_⟩
    have nqxp : qx ≠ p := PF.ne hqx
    rw [rgV_0, hspl, hsl1]
    refine ⟨p, qx, _, n + 3 + 7, rfl, upd_same, nqxp, by simp; omega, PF.new nqxp, by simp; omega, fun HG xl xs sG PG hxl0 hxl hpermx => ?_⟩
    have hlx : ((List.range nx).map fun i => ((i : Nat) : Int)).length = nx := by simp
    have px := perm_rg hpermx
    have XG : SameX p H HG := (XF.new hqx).trans sG
    have TG : SameT HF HG := (SameT.new hqx).trans (PotAt.t (PF.new nqxp) sG)
    have hol3 : HG ol = some (.lst ((0 :: ms).map V.int)) := sG ol _ ((upd_ne (ne_of_none hol2 hqx)).trans hol2) nolp
    -- the order of the output letters
    obtain ⟨r0, hr0⟩ : ∃ r0, s0[0]? = some r0 := ⟨s0[0]'(by omega), by simp⟩
    obtain ⟨rv, hrv, ra, rfl, hrs⟩ := paired_at' hsp hr0
    obtain ⟨hrl1, hrl2⟩ := hsl2 r0 (List.mem_of_getElem? hr0)
    refine ⟨_, rfl, _, rfl, ja, _, _, _, rfl, rfl, TG.seq hjsF, atI_nat (j := 0) hsv, sa, _, _, _, rfl, rfl, TG.seq hss, atI_nat (j := 0) hrv, ra, _, rfl, .inr (TG.seq hrs), _, rfl, ⟨by omega, by simp <;> omega, by omega, by simp <;> omega, by simp <;> omega⟩, fun qy hqy => ?_⟩
    have nqyp : qy ≠ p := PG.ne hqy
    rw [rgV_0, List.length_map, hrl1]
    refine ⟨p, qy, _, n + 3 + 7 + nx, rfl, upd_same, nqyp, by simp; omega, (PG.mono (by omega)).new nqyp, by simp; omega, fun HI yl ys sI PI' hyl0 hyl hpermy => ⟨_, _, rfl, ?_⟩⟩
    have hly : ((List.range ny).map fun i => ((i : Nat) : Int)).length = ny := by simp
    have py := perm_rg hpermy
    have XI : SameX p H HI := (XG.new hqy).trans sI
    have TI' : SameT HG HI := (SameT.new hqy).trans (PotAt.t (PG.new nqyp) sI)
    have hol4 : HI ol = some (.lst ((0 :: ms).map V.int)) := sI ol _ ((upd_ne (ne_of_none hol3 hqy)).trans hol3) nolp
    have nxlp : xl ≠ p := fun z => by rw [z] at hxl0; exact absurd (PF.new nqxp).lst (by rintro ⟨_, z2⟩; rw [hxl0] at z2; cases z2)
    have hxl4 : HI xl = some (.lst (xs.map V.int)) := sI xl _ ((upd_ne (ne_of_none hxl hqy)).trans hxl) nxlp
    refine ⟨_, rfl, _, rfl, _, rfl, _, rfl, .ref ja, ol, xl, yl, j, nx, ny, 0 :: ms, xs, ys, rfl, ((hj0.t TF).t TG).t TI', ij, hol4, hxl4, hyl, po, px, py, fun HK v' j' SK hj' ij' hl' => ?_⟩
    refine ⟨_, rfl, l2, fun tz htz => ?_⟩
    have PK : PotAt HK p (n + 40) := by
      obtain ⟨a, b, c, z, r1', r2', r3', r4', r5'⟩ := PI'
      exact ⟨a, b, c, SK _ _ z, r1', r2', r3', r4', by rw [hly] at r5'; omega⟩
    exact k _ _ ((XI.trans (Same.x SK)).new htz) (PK.new (PK.ne htz)) ⟨tz, v', ls, j', nx, ny, rfl, SqT.of upd_same, hj'.t (SameT.new htz), ij', hnx, hny, hls⟩
abbrev s_one_of : Stmt := topS 27
abbrev N_one_of : List Str := ["_law_pot_here", "_law_way", "_law_most", "_law_letters"]
theorem sc_one_of : FnScope N_one_of ["_law_pot_here"] (defScope s_one_of) := ⟨rfl, rfl, rfl, by decide +kernel, rfl, by decide +kernel, by decide +kernel⟩
theorem ok_one_of {f : Addr} {fd : FuncData} (F : Fun K "_law_one_of" "_law_one_of" s_one_of f fd) (T : Bt mg) (c_take : Cal P w K mg base 1 "_law_take" spTake []) (c_known : Cal P w K mg base 3 "_law_known" (spKnown K) []) (c_judge : Cal P w K mg base 3 "_law_judge" (spJudge K) []) :
    FnOk P w K mg base CX0 4 f fd ["_law_pot_here"] (spOneOf K) := by
  refine F.ok sc_one_of (fun vs H Q E h => ?_) (fun cdv A outer s H vs Q E hr h => ?_)
  · obtain ⟨p, n, rfl, _⟩ := h
    rfl
  · obtain ⟨p, n, rfl, hP, hn, k⟩ := h
    refine ⟨_, (pss_cons (ps_set (i := 1) sc_one_of.nd rfl (Or.inl rfl) (pe_c c_take hr (by decide) rfl (pa_cons (pv 0) (pa_cons pe_int pa_nil))))
(pss_cons (ps_if (pt_cmpR op_eq (pv 1) pe_int (nomark _))
(pss_one (ps_ret (pe_ix (ixTK K) (pe_c c_known hr (by decide) rfl (pa_cons (pv 0) pa_nil)) pe_int (fun _ _ => rfl))))
pss_nil)
(pss_cons (ps_asg (pe_ix (ixLK K) (pe_lst (pa_cons (pe_tup (pa_cons pe_int (pa_cons pe_int pa_nil))) (pa_cons (pe_tup (pa_cons pe_int (pa_cons pe_int pa_nil))) (pa_cons (pe_tup (pa_cons pe_int (pa_cons pe_int pa_nil))) (pa_cons (pe_tup (pa_cons pe_int (pa_cons pe_int pa_nil))) pa_nil))))) (pe_op op_sub (pv 1) pe_int) (fun _ _ => rfl)) (pg_tup rfl (pgs_cons (pg_name (i := 2) sc_one_of.nd rfl (Or.inl rfl)) (pgs_cons (pg_name (i := 3) sc_one_of.nd rfl (Or.inl rfl)) pgs_nil))))
(pss_one (ps_ret (pe_c c_judge hr (by decide) rfl (pa_cons (pv 0) (pa_cons (pv 2) (pa_cons (pv 3) (pa_cons (pv 3) pa_nil)))))))))), ?_⟩
    have l2 : 2 ≤ sizeLine := by decide
    refine ⟨_, rfl, p, 5, n, rfl, by omega, by omega, hP, by omega, fun H1 r s1 P1 q1 => ?_⟩
    refine ⟨_, rfl, rfl, _, rfl, ?_⟩
    refine ite2 (fun hz => ?_) (fun hz => ?_)
    · refine ⟨_, rfl, p, n + 1, rfl, P1, by omega, fun H2 v s2 P2 hv => ?_⟩
      obtain ⟨t, vj, ls, j, nx, ny, rfl, hq, hj, ij, hnx, hny, hls⟩ := hv
      exact ⟨t, _, _, _, rfl, rfl, hq, atI_nat (j := 0) rfl, k _ _ j nx ny (s1.trans s2) (P2.mono (by omega)) hj ij⟩
    · have hr0 : r ≠ 0 := by
        intro z; apply hz; apply decide_eq_true; rw [z]; rfl
      refine ⟨l2, fun t1 h1 => ⟨l2, fun t2 h2 => ⟨l2, fun t3 h3 => ⟨l2, fun t4 h4 => ⟨by show 4 ≤ sizeLine; decide, fun tl htl => ?_⟩⟩⟩⟩⟩
      have u5 := SameT.new (o := .lst [V.ref t1, .ref t2, .ref t3, .ref t4]) htl
      have u4 := (SameT.new (o := .tup [V.int 3, .int 3]) h4).trans u5
      have u3 := (SameT.new (o := .tup [V.int 8, .int 4]) h3).trans u4
      have u2 := (SameT.new (o := .tup [V.int 5, .int 3]) h2).trans u3
      have S1 := (((((Same.refl H1).new (o := .tup [V.int 3, .int 2]) h1).new (o := .tup [V.int 5, .int 3]) h2).new (o := .tup [V.int 8, .int 4]) h3).new (o := .tup [V.int 3, .int 3]) h4).new (o := .lst [V.ref t1, .ref t2, .ref t3, .ref t4]) htl
      have fin : ∀ (t : Addr) (m1 m2 : Int), 1 ≤ m1 → m1 ≤ 8 → 1 ≤ m2 → m2 ≤ 4 → SqT K (upd (upd (upd (upd (upd H1 t1 (.tup [V.int 3, .int 2])) t2 (.tup [V.int 5, .int 3])) t3 (.tup [V.int 8, .int 4])) t4 (.tup [V.int 3, .int 3])) tl (.lst [V.ref t1, .ref t2, .ref t3, .ref t4])) t [.int m1, .int m2] →
          gTup K 2 (gCons (gName 2) (gCons (gName 3) gNil)) (.ref t) [some (.ref p), some (.int (r : Int)), none, none] (upd (upd (upd (upd (upd H1 t1 (.tup [V.int 3, .int 2])) t2 (.tup [V.int 5, .int 3])) t3 (.tup [V.int 8, .int 4])) t4 (.tup [V.int 3, .int 3])) tl (.lst [V.ref t1, .ref t2, .ref t3, .ref t4]))
            (tRet (tCall (spJudge K) [] E0 (tCons (tVar 0) (tCons (tVar 2) (tCons (tVar 3) (tCons (tVar 3) tNil))))) { nx := fun _ H' => Q .non H', rt := Q }) := by
        intro t m1 m2 a1 a2 b1 b2 ht
        refine ⟨t, _, rfl, ht, rfl, _, _, rfl, _, _, rfl, rfl, ?_⟩
        refine ⟨_, rfl, _, rfl, _, rfl, _, rfl, p, m1, m2, m2, n + 1, rfl, a1, a2, b1, b2, b1, b2, ?_, by omega, fun H3 v j nx ny s3 P3 hj ij c1 c2 c3 => ?_⟩
        · obtain ⟨a, b, c, z, r⟩ := P1
          exact ⟨a, b, c, S1 _ _ z, r⟩
        · exact k _ _ j nx ny (s1.trans ((Same.x S1).trans s3)) (P3.mono (by omega)) hj ij
      have hr5 : r < 5 := by omega
      refine ⟨_, rfl, _, _, rfl, rfl, tl, [V.ref t1, .ref t2, .ref t3, .ref t4], (r : Int) - 1, ?_⟩
      match r, hr0, hr5 with
      | 1, _, _ => exact ⟨_, rfl, rfl, SqL.of upd_same, at_of (j := 0) (by decide) rfl, fin t1 3 2 (by decide) (by decide) (by decide) (by decide) (u2.seq (SqT.of upd_same))⟩
      | 2, _, _ => exact ⟨_, rfl, rfl, SqL.of upd_same, at_of (j := 1) (by decide) rfl, fin t2 5 3 (by decide) (by decide) (by decide) (by decide) (u3.seq (SqT.of upd_same))⟩
      | 3, _, _ => exact ⟨_, rfl, rfl, SqL.of upd_same, at_of (j := 2) (by decide) rfl, fin t3 8 4 (by decide) (by decide) (by decide) (by decide) (u4.seq (SqT.of upd_same))⟩
      | 4, _, _ => exact ⟨_, rfl, rfl, SqL.of upd_same, at_of (j := 3) (by decide) rfl, fin t4 3 3 (by decide) (by decide) (by decide) (by decide) (u5.seq (SqT.of upd_same))⟩
end
end LA

namespace LA
open PySem L2
open C8 (Cal pe_c)
theorem PotAt.same {H H' : Hp} {p : Addr} {n : Nat} (h : PotAt H p n) (s : Same H H') : PotAt H' p n := by
  obtain ⟨a, b, c, h1, r⟩ := h
  exact ⟨a, b, c, s _ _ h1, r⟩
def odds : List PyData := [.none, .bool true, .bool false, .int 0, .int 1, .int (-1), .int 8, .int (10 ^ 30), .str "", .str "0", .tuple [], .list [], .dict [], .tuple [.int 0], .list [.int 0], .tuple [.tuple [.int 0]], .tuple [.tuple [.tuple [.int 0]]]]
theorem odds_bd : ∀ d ∈ odds, Bd (10 ^ 30) 110 3 d := by
  intro d hd
  have h1 : ∀ i : Int, i.natAbs ≤ 10 ^ 30 → Bd (10 ^ 30) 106 0 (.int i) := fun i hi => ⟨by simp only [IB]; exact hi, by
    simp only [szD]
    have : i.natAbs.log2 < 101 := PySem.Flt.log2_lt_of (by decide) (Nat.lt_of_le_of_lt hi (by decide))
    omega, by simp only [PyData.depth]; omega⟩
  have z0 : Bd (10 ^ 30) 2 0 (.int 0) := ⟨by simp [IB], by simp only [szD]; decide, by simp [PyData.depth]⟩
  have t1 : Bd (10 ^ 30) 7 1 (.tuple [.int 0]) := (Bd.tup (Bds.cons z0 (Bds.nil (s := 0)))).mono (Nat.le_refl _) (by decide) (by decide)
  have t2 : Bd (10 ^ 30) 12 2 (.tuple [.tuple [.int 0]]) := (Bd.tup (Bds.cons t1 (Bds.nil (s := 0)))).mono (Nat.le_refl _) (by decide) (by decide)
  have t3 : Bd (10 ^ 30) 17 3 (.tuple [.tuple [.tuple [.int 0]]]) := (Bd.tup (Bds.cons t2 (Bds.nil (s := 0)))).mono (Nat.le_refl _) (by decide) (by decide)
  simp only [odds, List.mem_cons, List.not_mem_nil, or_false] at hd
  rcases hd with rfl | rfl | rfl | rfl | rfl | rfl | rfl | rfl | rfl | rfl | rfl | rfl | rfl | rfl | rfl | rfl | rfl
  · exact ⟨by simp [IB], by simp [szD], by simp [PyData.depth]⟩
  · exact ⟨by simp [IB], by simp [szD], by simp [PyData.depth]⟩
  · exact ⟨by simp [IB], by simp [szD], by simp [PyData.depth]⟩
  · exact (h1 0 (by decide)).mono (Nat.le_refl _) (by decide) (by decide)
  · exact (h1 1 (by decide)).mono (Nat.le_refl _) (by decide) (by decide)
  · exact (h1 (-1) (by decide)).mono (Nat.le_refl _) (by decide) (by decide)
  · exact (h1 8 (by decide)).mono (Nat.le_refl _) (by decide) (by decide)
  · exact (h1 (10 ^ 30) (by decide)).mono (Nat.le_refl _) (by decide) (by decide)
  · exact ⟨by simp [IB], by simp only [szD]; decide +kernel, by simp [PyData.depth]⟩
  · exact ⟨by simp [IB], by simp only [szD]; decide +kernel, by simp [PyData.depth]⟩
  · exact (Bd.tup (Bds.nil (s := 0) (e := 0))).mono (Nat.le_refl _) (by decide) (by decide)
  · exact (Bd.lst (Bds.nil (s := 0) (e := 0))).mono (Nat.le_refl _) (by decide) (by decide)
  · exact ⟨by simp [IB, IBk], by simp [szD, szKv], by simp [PyData.depth, PyData.depthKv]⟩
  · exact t1.mono (Nat.le_refl _) (by decide) (by decide)
  · exact (Bd.lst (Bds.cons z0 (Bds.nil (s := 0)))).mono (Nat.le_refl _) (by decide) (by decide)
  · exact t2.mono (Nat.le_refl _) (by decide) (by decide)
  · exact t3.mono (Nat.le_refl _) (by decide) (by decide)
theorem szl {n : Nat} (h : n ≤ 1000) : n ≤ sizeLine := Nat.le_trans h (by decide)
theorem sm {H : Hp} {q : Addr} {o : HO} (h : H q = none) : Same H (upd H q o) := (Same.refl H).new h
section
variable {P : Program} {w : World} {K : PySem.W.Frag} {mg : Str → Option Value} {base : Heap}
abbrev s_odd : Stmt := topS 24
abbrev N_odd : List Str := ["_law_pot_here", "_law_odd_here", "_law_turn"]
theorem sc_odd : FnScope N_odd ["_law_pot_here"] (defScope s_odd) := ⟨rfl, rfl, rfl, by decide +kernel, rfl, by decide +kernel, by decide +kernel⟩
theorem ok_odd {f : Addr} {fd : FuncData} (F : Fun K "_law_odd" "_law_odd" s_odd f fd) (T : Bt mg) (c_of : Cal P w K mg base 2 "_law_of" spOf []) : FnOk P w K mg base CX0 3 f fd ["_law_pot_here"] (spOdd K) := by
  refine F.ok sc_odd (fun vs H Q E h => ?_) (fun cdv A outer s H vs Q E hr h => ?_)
  · obtain ⟨p, Z, n, rfl, _⟩ := h
    rfl
  · obtain ⟨p, Z, n, rfl, hP, hX, hn, k⟩ := h
    refine ⟨_, (C8.pss_cut (ps_set (i := 1) sc_odd.nd rfl (Or.inl rfl) (pe_c c_of hr (by decide) rfl (pa_cons (pv 0) (pa_cons (pe_lst (pa_cons pe_non (pa_cons pe_bl (pa_cons pe_bl (pa_cons pe_int (pa_cons pe_int (pa_cons (pe_un un_neg pe_int) (pa_cons pe_int (pa_cons (pe_op op_pow pe_int pe_int) (pa_cons pe_str (pa_cons pe_str (pa_cons (pe_tup pa_nil) (pa_cons (pe_lst pa_nil) (pa_cons pe_dnewK (pa_cons (pe_tup (pa_cons pe_int pa_nil)) (pa_cons (pe_lst (pa_cons pe_int pa_nil)) (pa_cons (pe_tup (pa_cons (pe_tup (pa_cons pe_int pa_nil)) pa_nil)) (pa_cons (pe_tup (pa_cons (pe_tup (pa_cons (pe_tup (pa_cons pe_int pa_nil)) pa_nil)) pa_nil)) pa_nil)))))))))))))))))) pa_nil))))
(pss_cons (ps_for PassesOwn.never rfl (pi_range1 (by rfl) T.range (pa_cons (pe_c c_of hr (by decide) rfl (pa_cons (pv 0) (pa_cons (pe_lst (pa_cons pe_int (pa_cons pe_int (pa_cons pe_int (pa_cons pe_int (pa_cons pe_int (pa_cons pe_int pa_nil))))))) pa_nil))) pa_nil)) (pg_name (i := 2) sc_odd.nd rfl (Or.inl rfl))
(pss_one (ps_set (i := 1) sc_odd.nd rfl (Or.inl rfl) (pe_c c_of hr (by decide) rfl (pa_cons (pv 0) (pa_cons (pe_lst (pa_cons (pe_tup (pa_cons (pv 1) pa_nil)) (pa_cons (pe_lst (pa_cons (pv 1) pa_nil)) (pa_cons (pe_tup (pa_cons (pv 1) (pa_cons pe_int pa_nil))) (pa_cons (pe_disp (pps_cons pe_int (pv 1) pps_nil) rfl rfl (by simp) (by decide)) pa_nil))))) pa_nil))))))
(pss_one (ps_ret (pv 1))))), ?_⟩
    refine ⟨fun σ' H' => ∃ v d, σ' = [some (.ref p), some v, none] ∧ SameX p H H' ∧ PotAt H' p (n + 1) ∧ Dq K p Z H' v d ∧ Bd (10 ^ 30) 110 3 d, ?_, ?_⟩
    · refine ⟨_, rfl, _, rfl, _, _, rfl, rfl, ⟨by decide, by decide, by decide⟩, by decide, fun q0 f0 => ⟨by decide, fun q1 f1 q2 f2 => ?_⟩⟩
      have S0 := sm (o := .tup []) f0
      have P0 := hP.same S0
      have hX0 := hX.same S0
      have n1 := outN P0 hX0 f1
      have S1 := sm (o := .lst []) f1
      have P1 := P0.same S1
      have hX1 := hX0.same S1
      have n2 := outN P1 hX1 f2
      have S2 := sm (o := .dK []) f2
      have P2 := P1.same S2
      refine ⟨szl (by simp), fun q3 f3 => ?_⟩
      have S3 := sm (o := .tup [V.int 0]) f3
      have P3 := P2.same S3
      refine ⟨by decide, fun q4 f4 => ?_⟩
      have hX3 := (hX1.same S2).same S3
      have n4 := outN P3 hX3 f4
      have S4 := sm (o := .lst [V.int 0]) f4
      have P4 := P3.same S4
      refine ⟨by decide, fun q5 f5 => ?_⟩
      have S5 := sm (o := .tup [V.int 0]) f5
      have P5 := P4.same S5
      refine ⟨szl (by simp), fun q6 f6 => ?_⟩
      have S6 := sm (o := .tup [V.ref q5]) f6
      have P6 := P5.same S6
      refine ⟨by decide, fun q7 f7 => ?_⟩
      have S7 := sm (o := .tup [V.int 0]) f7
      have P7 := P6.same S7
      refine ⟨szl (by simp), fun q8 f8 => ?_⟩
      have S8 := sm (o := .tup [V.ref q7]) f8
      have P8 := P7.same S8
      refine ⟨szl (by simp), fun q9 f9 => ?_⟩
      have S9 := sm (o := .tup [V.ref q8]) f9
      have P9 := P8.same S9
      refine ⟨szl (by simp), fun l hl => ?_⟩
      have nl := P9.ne hl
      have SL := sm (o := .lst [V.non, V.bl true, V.bl false, V.int 0, V.int 1, V.int (-1), V.int 8, V.int (10 ^ 30), V.str "", V.str "0", V.ref q0, V.ref q1, V.ref q2, V.ref q3, V.ref q4, V.ref q6, V.ref q9]) hl
      refine ⟨p, l, _, n, rfl, upd_same, nl, by simp, by simp, P9.same SL, by omega, fun H1 i v s1 Q1 e1 => ?_⟩
      have a7 := ((S7.trans S8).trans S9).trans SL
      have a5 := (S5.trans S6).trans a7
      have a3 := (S3.trans S4).trans a5
      have D : DqAll K p Z _ _ odds := .cons .non (.cons (.bl true) (.cons (.bl false) (.cons (.int 0) (.cons (.int 1) (.cons (.int (-1)) (.cons (.int 8) (.cons (.int (10 ^ 30)) (.cons (.str "") (.cons (.str "0")
        (.cons (Dq.same (.tup (SqT.of upd_same) .nil) (((S1.trans S2).trans a3))) (.cons (Dq.same (.lst n1 (SqL.of upd_same) .nil) (S2.trans a3)) (.cons (Dq.same (.dic0 n2 upd_same) a3)
        (.cons (Dq.same (.tup (SqT.of upd_same) (.cons (.int 0) .nil)) (S4.trans a5)) (.cons (Dq.same (.lst n4 (SqL.of upd_same) (.cons (.int 0) .nil)) a5)
        (.cons (Dq.same (.tup (SqT.of upd_same) (.cons (Dq.same (.tup (SqT.of upd_same) (.cons (.int 0) .nil)) S6) .nil)) a7)
        (.cons (Dq.same (.tup (SqT.of upd_same) (.cons (Dq.same (.tup (SqT.of upd_same) (.cons (Dq.same (.tup (SqT.of upd_same) (.cons (.int 0) .nil)) S8) .nil)) S9) .nil)) SL) .nil))))))))))))))))
      obtain ⟨d, hd, hq⟩ := D.get e1
      exact ⟨v, d, rfl, (Same.x (S0.trans (S1.trans (S2.trans a3)))).trans s1, Q1, hq.mv (P9.same SL) s1, odds_bd d (List.mem_of_getElem? hd)⟩
    · rintro σ' H' ⟨v, d, rfl, S, P1, hd, hb⟩
      refine ⟨_, rfl, by decide, fun l hl => ?_⟩
      have nl := P1.ne hl
      have SL := sm (o := .lst [V.int 0, V.int 0, V.int 0, V.int 1, V.int 2, V.int 5]) hl
      refine ⟨p, l, _, n + 1, rfl, upd_same, nl, by simp, by simp, P1.same SL, by omega, fun H1 i v1 s1 Q1 e1 => ?_⟩
      obtain ⟨m, rfl, hm⟩ : ∃ m : Nat, v1 = .int (m : Int) ∧ m ≤ 16 := by
        match i, e1 with
        | 0, e => simp at e; exact ⟨0, e.symm, by decide⟩
        | 1, e => simp at e; exact ⟨0, e.symm, by decide⟩
        | 2, e => simp at e; exact ⟨0, e.symm, by decide⟩
        | 3, e => simp at e; exact ⟨1, e.symm, by decide⟩
        | 4, e => simp at e; exact ⟨2, e.symm, by decide⟩
        | 5, e => simp at e; exact ⟨5, e.symm, by decide⟩
        | i + 6, e => simp at e
      refine ⟨_, rfl, by omega, by omega, for_range (lo := 0) (fun i σ H' => ∃ (v2 : Option V) (v : V) (d : PyData), σ = [some (.ref p), some v, v2] ∧ SameX p H H' ∧ PotAt H' p (n + 2 + i) ∧ Dq K p Z H' v d ∧ Bd (10 ^ 30) (110 + 11 * i) (3 + i) d)
        ⟨none, v, d, rfl, (S.trans (Same.x SL)).trans s1, Q1, (hd.same SL).mv (P1.same SL) s1, hb⟩ ?_ ?_⟩
      · rintro i σ G hi ⟨v2, v, d, rfl, S1, P1, hd, hb⟩
        have hi' : i < 16 := by have := hi; omega
        refine ⟨_, rfl, _, rfl, szl (by simp), fun q1 f1 => ?_⟩
        have T1 := sm (o := .tup [v]) f1
        refine ⟨_, rfl, szl (by simp), fun q2 f2 => ?_⟩
        have P2 := P1.same T1
        have hXG := (hX.x S1 P1).same T1
        have n2 := outN P2 hXG f2
        have T2 := sm (o := .lst [v]) f2
        have P3 := P2.same T2
        refine ⟨_, rfl, szl (by simp), fun q3 f3 => ?_⟩
        have T3 := sm (o := .tup [v, V.int 0]) f3
        have P4 := P3.same T3
        intro q4 f4
        have n4 := outN P4 ((hXG.same T2).same T3) f4
        refine ⟨_, rfl, upd_same, [(.inl 0, v)], rfl, by simp, ?_⟩
        rw [upd_upd]
        have T4 := sm (o := .dK (mergeK [] [(.inl 0, v)])) f4
        have P5 := P4.same T4
        refine ⟨szl (by simp), fun l hl => ?_⟩
        have nl := P5.ne hl
        have T5 := sm (o := .lst [V.ref q1, V.ref q2, V.ref q3, V.ref q4]) hl
        refine ⟨p, l, _, n + 2 + i, rfl, upd_same, nl, by simp, by simp, P5.same T5, by omega, fun H1 i1 v1 s1 Q1 e1 => ?_⟩
        have D : DqAll K p Z _ _ [.tuple [d], .list [d], .tuple [d, .int 0], .dict [(.int 0, d)]] :=
          .cons (Dq.same (.tup (SqT.of upd_same) (.cons (hd.same T1) .nil)) (((T2.trans T3).trans T4).trans T5)) (.cons (Dq.same (.lst n2 (SqL.of upd_same) (.cons ((hd.same T1).same T2) .nil)) ((T3.trans T4).trans T5))
          (.cons (Dq.same (.tup (SqT.of upd_same) (.cons ((hd.same (T1.trans T2)).same T3) (.cons (.int 0) .nil))) (T4.trans T5)) (.cons (Dq.same (.dic1 n4 upd_same (hd.same (((T1.trans T2).trans T3).trans T4))) T5) .nil)))
        obtain ⟨d1, hd1, hq1⟩ := D.get e1
        have z0 : Bd (10 ^ 30) 2 (3 + i) (.int 0) := ⟨by simp [IB], by simp only [szD]; decide, by simp [PyData.depth]⟩
        have hb1 : Bd (10 ^ 30) (110 + 11 * (i + 1)) (3 + (i + 1)) d1 := by
          have hm1 := List.mem_of_getElem? hd1
          simp only [List.mem_cons, List.not_mem_nil, or_false] at hm1
          rcases hm1 with rfl | rfl | rfl | rfl
          · exact (Bd.tup (Bds.cons hb (Bds.nil (s := 0)))).mono (Nat.le_refl _) (by omega) (by omega)
          · exact (Bd.lst (Bds.cons hb (Bds.nil (s := 0)))).mono (Nat.le_refl _) (by omega) (by omega)
          · exact (Bd.tup (Bds.cons hb (Bds.cons z0 (Bds.nil (s := 0))))).mono (Nat.le_refl _) (by omega) (by omega)
          · exact (Bd.dic hb).mono (Nat.le_refl _) (by omega) (by omega)
        exact ⟨_, v1, d1, rfl, (S1.trans (Same.x ((((T1.trans T2).trans T3).trans T4).trans T5))).trans s1, Q1, hq1.mv (P5.same T5) s1, hb1⟩
      · rintro σ G ⟨v2, v, d, rfl, S1, P1, hd, hb⟩
        have hm2 : ((m : Int)).toNat ≤ 16 := by omega
        exact ⟨_, rfl, k G v d S1 (P1.mono (by omega)) hd (hb.mono (Nat.le_refl _) (by omega) (by omega))⟩
end
end LA

namespace LA
open PySem L2
open C8 (Cal pe_c)
theorem cut_to {xs : List V} {k : Nat} (h : k ≤ xs.length) : cutV xs none (some (k : Int)) = xs.take k := by
  unfold cutV HT.sIx
  simp
  rw [if_neg (by omega)]
  omega
/-- a slice of data -/
theorem cut_dq {K : PySem.W.Frag} {p : Addr} {Z : Addr → Prop} {H : Hp} {xs : List V} {ds : List PyData} (h : DqAll K p Z H xs ds) (lo hi : Option Int) : ∃ es, DqAll K p Z H (cutV xs lo hi) es ∧ ∀ n s e, Bds n s e ds → Bds n s e es := by
  unfold cutV
  exact ⟨_, (h.drop _).take _, fun n s e b => (b.drop _).take _⟩
theorem nonTup {K : PySem.W.Frag} {p : Addr} {Z : Addr → Prop} {H : Hp} {v : V} {d : PyData} (h : Dq K p Z H v d) : isTup d = false ∨ ∃ a xs ds, v = .ref a ∧ d = .tuple ds ∧ SqT K H a xs ∧ DqAll K p Z H xs ds := by
  cases h with
  | tup hs ha => exact .inr ⟨_, _, _, rfl, rfl, hs, ha⟩
  | _ => exact .inl rfl
theorem nonInt {K : PySem.W.Frag} {p : Addr} {Z : Addr → Prop} {H : Hp} {v : V} {d : PyData} (h : Dq K p Z H v d) : isInt d = false ∨ isInt d = true ∧ ∃ i, NumV v i ∧ ∀ m, 1 ≤ m → IB m d → i.natAbs ≤ m := by
  cases h with
  | int i => exact .inr ⟨rfl, i, rfl, fun m _ h => by simpa only [IB] using h⟩
  | bl b => exact .inr ⟨rfl, _, rfl, fun m h1 h => by cases b <;> simp <;> omega⟩
  | _ => exact .inl rfl
section
variable {P : Program} {w : World} {K : PySem.W.Frag} {mg : Str → Option Value} {base : Heap}
abbrev s_bent : Stmt := topS 25
abbrev N_bent : List Str := ["_law_pot_here", "_law_thing", "_law_at", "_law_some"]
theorem sc_bent : FnScope N_bent ["_law_pot_here", "_law_thing"] (defScope s_bent) := ⟨rfl, rfl, rfl, by decide +kernel, rfl, by decide +kernel, by decide +kernel⟩
theorem bent_step {f : Addr} {fd : FuncData} (F : Fun K "_law_bent" "_law_bent" s_bent f fd) (T : Bt mg) (c_take : Cal P w K mg base 1 "_law_take" spTake []) (c_of : Cal P w K mg base 2 "_law_of" spOf []) (c_odd : Cal P w K mg base 3 "_law_odd" (spOdd K) [])
    (D : Nat) (c_bent : Cal P w K mg base (4 + D) "_law_bent" (spBent K D) []) : FnOk P w K mg base CX0 (4 + D + 1) f fd ["_law_pot_here", "_law_thing"] (spBent K (D + 1)) := by
  refine F.ok sc_bent (fun vs H Q E h => ?_) (fun cdv A outer s H vs Q E hr h => ?_)
  · obtain ⟨p, Z, v, d, n, m, s, e, rfl, _⟩ := h
    rfl
  · obtain ⟨p, Z, v, d, n, m, sz, ee, rfl, hP, hX, hn, hd, hm1, hm2, hee, hb, hs, k⟩ := h
    have hu64 := hr.units
    refine ⟨_, (C8.pss_cut (ps_if (PW.pt (pw_and (pt_val (pe_callB (isQK K) (by rfl) T.isinstance (by decide +kernel) (pa_cons (pv 1) (pa_cons (pe_bltn (v := .ty "tuple") (u := .type "tuple") (by rfl) T.tuple (by decide +kernel) rfl) pa_nil)))) (pw_and (pt_cmpR (op_ne0 K hu64) (pv 1) (pe_tup pa_nil) (nomark _)) (pw_and1 (pt_cmpR op_gt (pe_c c_take hr (by omega) rfl (pa_cons (pv 0) (pa_cons pe_int pa_nil))) pe_int (nomark _))))))
(pss_cons (ps_set (i := 2) sc_bent.nd rfl (Or.inl rfl) (pe_c c_take hr (by omega) rfl (pa_cons (pv 0) (pa_cons (pe_callB (lenK K) (by rfl) T.len PySem.boot_len (pa_cons (pv 1) pa_nil)) pa_nil))))
(pss_one (ps_ret (pe_op (catK K) (pe_op (catK K) (pe_slice (slTK K) (pv 1) po_none (po_some (pv 2))) (pe_tup (pa_cons (pe_c c_bent hr (by omega) rfl (pa_cons (pv 0) (pa_cons (pe_ix (ixTK K) (pv 1) (pv 2) (fun _ _ => rfl)) pa_nil))) pa_nil))) (pe_slice (slTK K) (pv 1) (po_some (pe_op op_add (pv 2) pe_int)) po_none)))))
pss_nil)
(pss_cons (ps_set (i := 3) sc_bent.nd rfl (Or.inl rfl) (pe_lst (pa_cons (pe_c c_odd hr (by omega) rfl (pa_cons (pv 0) pa_nil)) pa_nil)))
(C8.pss_cut (ps_if (pt_val (pe_callB (isQK K) (by rfl) T.isinstance (by decide +kernel) (pa_cons (pv 1) (pa_cons (pe_bltn (v := .ty "tuple") (u := .type "tuple") (by rfl) T.tuple (by decide +kernel) rfl) pa_nil))))
(pss_one (ps_set (i := 3) sc_bent.nd rfl (Or.inl rfl) (pe_op op_cat (pv 3) (pe_lst (pa_cons (pe_callTy (lstK K) (by rfl) T.list (by decide +kernel) (pa_cons (pv 1) pa_nil)) (pa_cons (pe_slice (slTK K) (pv 1) (po_some pe_int) po_none) (pa_cons (pe_op (catK K) (pv 1) (pe_slice (slTK K) (pv 1) (po_some (pe_un un_neg pe_int)) po_none)) (pa_cons (pe_revT K (pv 1)) (pa_cons (pe_tup (pa_cons (pv 1) pa_nil)) (pa_cons (pe_op (catK K) (pv 1) (pe_tup (pa_cons pe_int pa_nil))) (pa_cons (pe_op (catK K) (pv 1) (pe_tup (pa_cons pe_non pa_nil))) pa_nil)))))))))))
pss_nil)
(C8.pss_cut (ps_if (pt_val (pe_callB (isQK K) (by rfl) T.isinstance (by decide +kernel) (pa_cons (pv 1) (pa_cons (pe_bltn (v := .ty "int") (u := .type "int") (by rfl) T.int (by decide +kernel) rfl) pa_nil))))
(pss_one (ps_set (i := 3) sc_bent.nd rfl (Or.inl rfl) (pe_op op_cat (pv 3) (pe_lst (pa_cons (pe_op op_addN (pv 1) pe_int) (pa_cons (pe_op op_subN (pv 1) pe_int) (pa_cons pe_non (pa_cons (pe_cmpR op_eqN (pv 1) pe_int (nomark _)) (pa_cons (pe_callTy call_strN (by rfl) T.str (by decide +kernel) (pa_cons (pv 1) pa_nil)) pa_nil)))))))))
pss_nil)
(C8.pss_cut (ps_if (pt_cmpR op_isN (pv 1) pe_non (nomark _))
(pss_one (ps_set (i := 3) sc_bent.nd rfl (Or.inl rfl) (pe_op op_cat (pv 3) (pe_lst (pa_cons pe_int (pa_cons pe_int (pa_cons pe_int (pa_cons pe_int pa_nil))))))))
pss_nil)
(pss_one (ps_ret (pe_c c_of hr (by omega) rfl (pa_cons (pv 0) (pa_cons (pv 3) pa_nil)))))))))), ?_⟩
    refine ⟨fun σ' H' => σ' = [some (.ref p), some v, none, none] ∧ SameX p H H' ∧ PotAt H' p (n + 1), ?_, ?_⟩
    · refine ⟨_, rfl, ?_⟩
      refine isiOne hd (kit_tup d) ⟨_, rfl, ?_⟩
      rcases nonTup hd with e | ⟨a, xs, ds, rfl, rfl, hT, hA⟩
      · rw [e]
        exact iteF (iteF ⟨rfl, SameX.refl p H, hP.mono (by omega)⟩)
      refine iteT ?_
      refine ⟨_, rfl, szl (by simp), fun q0 f0 => ?_⟩
      have S0 := sm (o := .tup []) f0
      refine ⟨a, q0, xs, rfl, rfl, (Same.t S0).seq hT, SqT.of upd_same, _, rfl, ?_⟩
      cases xs with
      | nil => exact iteF (iteF ⟨rfl, Same.x S0, (hP.same S0).mono (by omega)⟩)
      | cons x0 xs0 =>
        refine iteT ?_
        refine ⟨_, rfl, p, 5, n, rfl, by decide, by decide, hP.same S0, by omega, fun H1 r1 s1 P1 _ => ⟨_, _, rfl, rfl, _, rfl, ?_⟩⟩
        refine ite2 (fun hg => ?_) (fun hg => ?_)
        · have sx1 := (Same.x (p := p) S0).trans s1
          have hT1 : SqT K H1 a (x0 :: xs0) := (hP.t sx1).seq hT
          have hbs := hb.untup
          have hlen := hbs.1.len
          have hl2 := hA.len
          refine ⟨_, rfl, _, rfl, a, _, rfl, .inr hT1, p, _, n + 1, rfl, by simp, by simp at hl2 ⊢; omega, P1, by omega, fun H2 r2 s2 P2 hr2 => ?_⟩
          have hr3 : r2 < (x0 :: xs0).length := by omega
          have sx2 := sx1.trans s2
          have hT2 : SqT K H2 a (x0 :: xs0) := (hP.t sx2).seq hT
          refine ⟨_, rfl, ?_⟩
          unfold tNoPart
          refine ⟨_, rfl, _, rfl, slOne (K := K) hT2 fun H3 q3 S3 h3 => ?_⟩
          rw [cut_to (by omega)] at h3
          have hT3 := (Same.t S3).seq hT2
          have P3 := P2.same S3
          have sx3 := sx2.trans (Same.x S3)
          obtain ⟨dx, hdx, hqx⟩ := (hA.mv hP sx3).get (i := r2) (v := (x0 :: xs0)[r2]) (List.getElem?_eq_getElem hr3)
          have hbx := hbs.1.get hdx
          cases D with
          | zero => exact absurd hbs.2.1 (by omega)
          | succ D =>
            refine ⟨_, rfl, _, rfl, _, rfl, a, _, _, (x0 :: xs0)[r2], rfl, rfl, hT3, atI_nat (j := r2) (List.getElem?_eq_getElem hr3), ?_⟩
            refine ⟨p, Z, _, dx, n + 2, m, szD dx, ee - 1, rfl, P3, hX.x sx3 P3, by omega, hqx, hm1, hm2, by omega, ⟨hbx.ib, Nat.le_refl _, hbx.dp⟩, by have := hbx.sz; omega, fun H4 v4 d4 s4 P4 hq4 hb4 => ?_⟩
            refine ⟨szl (by simp), fun q5 f5 => ?_⟩
            have S5 := sm (o := .tup [v4]) f5
            have t35 : SameT H3 _ := (P3.t s4).trans (Same.t S5)
            have hz1 : ((x0 :: xs0).take r2).length + [v4].length ≤ sizeLine := by
              rw [List.length_take]
              exact Nat.le_trans (show min r2 _ + 1 ≤ 1000001 by simp at hl2 ⊢; omega) (by decide)
            refine catOne (K := K) (t35.seq h3) (SqT.of upd_same) hz1 (fun H6 q6 S6 h6 => ?_)
            have P6 := (P4.same S5).same S6
            have sx6 := ((sx3.trans s4).trans (Same.x S5)).trans (Same.x S6)
            have hT6 : SqT K H6 a (x0 :: xs0) := (hP.t sx6).seq hT
            refine ⟨_, rfl, _, rfl, _, _, rfl, rfl, _, rfl, ?_⟩
            refine slOne (K := K) hT6 fun H7 q7 S7 h7 => ?_
            have ecut : cutV (x0 :: xs0) (some ((r2 : Int) + 1)) none = (x0 :: xs0).drop (r2 + 1) := by
              have e : ((r2 : Int) + 1) = ((r2 + 1 : Nat) : Int) := by omega
              rw [e]; exact cut_from (by omega)
            rw [ecut] at h7
            have hz2 : ((x0 :: xs0).take r2 ++ [v4]).length + ((x0 :: xs0).drop (r2 + 1)).length ≤ sizeLine := by
              rw [List.length_append, List.length_take, List.length_drop]
              exact Nat.le_trans (show _ ≤ 1000001 by simp at hl2 ⊢; omega) (by decide)
            refine catOne (K := K) ((Same.t S7).seq h6) h7 hz2 (fun H8 q8 S8 h8 => ?_)
            have sx8 := (sx6.trans (Same.x S7)).trans (Same.x S8)
            have P8 := (P6.same S7).same S8
            have hA8 := hA.mv hP sx8
            have hq8 : Dq K p Z H8 v4 d4 := (((hq4.same S5).same S6).same S7).same S8
            refine k H8 (.ref q8) (.tuple (ds.take r2 ++ d4 :: ds.drop (r2 + 1))) sx8 (P8.mono (by omega)) (.tup h8 ?_) ?_
            · have := (hA8.take r2).app (.cons hq8 (hA8.drop (r2 + 1)))
              simpa using this
            · have := Bd.tup (hbs.1.put hdx hb4 (by omega) (by omega))
              have hszx := szAll_mem (List.mem_of_getElem? hdx)
              have h1 := hbs.1.sz
              have h3' := hbs.2.2
              refine this.mono (Nat.le_refl _) (by omega) (by omega)
        · exact ⟨rfl, (Same.x (p := p) S0).trans s1, P1⟩
    · rintro σ' H' ⟨rfl, S1, P1⟩
      have hd1 := hd.mv hP S1
      refine ⟨_, rfl, p, Z, n + 1, rfl, P1, hX.x S1 P1, by omega, fun H2 v2 d2 s2 P2 hq2 hb2 => ⟨szl (by simp), fun l hl => ?_⟩⟩
      have SL := sm (o := .lst [v2]) hl
      have sx2 := (S1.trans s2).trans (Same.x SL)
      have P3 := P2.same SL
      have nl := P2.ne hl
      have hd2 := hd.mv hP sx2
      -- the three ways on, one behind the other
      let R : Nat → L2.St → Hp → Prop := fun B σ' H' => ∃ (l : Addr) (vs : List V) (ds : List PyData), σ' = [some (.ref p), some v, none, some (.ref l)] ∧ H' l = some (.lst vs) ∧ l ≠ p ∧ DqAll K p Z H' vs ds ∧ (∀ x ∈ ds, Bd (m + 1) (2 * sz + 3000) (ee + 20) x) ∧
        0 < vs.length ∧ vs.length ≤ B ∧ SameX p H H' ∧ PotAt H' p (n + 21)
      have more : ∀ (B : Nat) (l : Addr) (vs us : List V) (ds es : List PyData) (G G' : Hp) (l2 : Addr) (QQ : VK), B ≤ 100 → G l = some (.lst vs) → l ≠ p → DqAll K p Z G vs ds → (∀ x ∈ ds, Bd (m + 1) (2 * sz + 3000) (ee + 20) x) → 0 < vs.length → vs.length ≤ B →
          SameX p H G → PotAt G p (n + 21) → Same G G' → G' l2 = some (.lst us) → DqAll K p Z G' us es → (∀ x ∈ es, Bd (m + 1) (2 * sz + 3000) (ee + 20) x) → us.length ≤ 10 →
          (∀ q H', R (B + 10) [some (.ref p), some v, none, some (.ref q)] H' → QQ (.ref q) H') → rCat (.ref l) (.ref l2) G' QQ := by
        intro B l vs us ds es G G' l2 QQ hB h1 h2 h3 h4 h5 h6 h7 h8 h9 h10 h11 h12 h13 h14
        refine ⟨l, l2, vs, us, rfl, rfl, h9 _ _ h1, h10, szl (by omega), fun q hq => ?_⟩
        have SQ := sm (o := .lst (vs ++ us)) hq
        have P' := h8.same h9
        refine h14 q _ ⟨q, vs ++ us, ds ++ es, rfl, upd_same, P'.ne hq, ((h3.same h9).same SQ).app (h11.same SQ), fun x hx => (List.mem_append.mp hx).elim (h4 x) (h12 x), by rw [List.length_append]; omega, by rw [List.length_append]; omega, (h7.trans (Same.x h9)).trans (Same.x SQ), P'.same SQ⟩
      have hbv2 : Bd (m + 1) (2 * sz + 3000) (ee + 20) d2 := hb2.mono (by omega) (by omega) (by omega)
      have small : ∀ i : Int, i.natAbs ≤ m + 1 → Bd (m + 1) (2 * sz + 3000) (ee + 20) (.int i) := fun i hi => ⟨by simp only [IB]; exact hi, by
        simp only [szD]
        have h31 : (10 : Nat) ^ 31 + 1 < 2 ^ 200 := by decide
        have := log_small hi (by omega)
        omega, by simp [PyData.depth]⟩
      refine ⟨R 11, ?_, ?_⟩
      · refine ⟨_, rfl, ?_⟩
        refine isiOne hd2 (kit_tup d) ⟨_, rfl, ?_⟩
        rcases nonTup hd2 with e | ⟨a, xs, ds, rfl, rfl, hT, hA⟩
        · rw [e]
          exact iteF ⟨l, [v2], [d2], rfl, upd_same, nl, .cons (hq2.same SL) .nil, by simpa using hbv2, by simp, by simp, sx2, P3⟩
        refine iteT ?_
        have hbs := hb.untup
        have hlx : xs.length ≤ 1000000 := by have := hA.len; have := hbs.1.len; omega
        have zl : ∀ k : Nat, k ≤ 2000010 → k ≤ sizeLine := fun k h => Nat.le_trans h (by decide)
        refine ⟨_, rfl, _, rfl, a, xs, rfl, .inr hT, fun q1 f1 => ?_⟩
        have T1 := sm (o := .lst xs) f1
        have n1 := outN P3 (hX.x sx2 P3) f1
        have hT1 := (Same.t T1).seq hT
        refine ⟨_, rfl, _, rfl, ?_⟩
        unfold tNoPart
        refine slOne (K := K) hT1 fun H5 q2 T2 h2 => ?_
        have hT2 := (Same.t T2).seq hT1
        refine ⟨_, rfl, _, rfl, _, rfl, _, rfl, ?_⟩
        refine slOne (K := K) hT2 fun H6 q3 T3 h3 => ?_
        have hT3 := (Same.t T3).seq hT2
        have hcl : (cutV xs (some (-1)) none).length ≤ xs.length := by unfold cutV; rw [List.length_take, List.length_drop]; omega
        refine catOne (K := K) hT3 h3 (zl _ (by omega)) fun H7 q4 T4 h4 => ?_
        have hT4 := (Same.t T4).seq hT3
        refine ⟨_, rfl, a, xs, rfl, hT4, fun q5 f5 => ?_⟩
        have T5 := sm (o := .tup xs.reverse) f5
        have hT5 := (Same.t T5).seq hT4
        refine ⟨_, rfl, szl (by simp), fun q6 f6 => ?_⟩
        have T6 := sm (o := .tup [V.ref a]) f6
        have hT6 := (Same.t T6).seq hT5
        refine ⟨_, rfl, szl (by simp), fun q7 f7 => ?_⟩
        have T7 := sm (o := .tup [V.int 0]) f7
        have hT7 := (Same.t T7).seq hT6
        refine catOne (K := K) hT7 (SqT.of upd_same) (zl _ (by simp; omega)) fun H8 q8 T8 h8 => ?_
        have hT8 := (Same.t T8).seq hT7
        refine ⟨_, rfl, szl (by simp), fun q9 f9 => ?_⟩
        have T9 := sm (o := .tup [V.non]) f9
        have hT9 := (Same.t T9).seq hT8
        refine catOne (K := K) hT9 (SqT.of upd_same) (zl _ (by simp; omega)) fun H10 q10 T10 h10 => ?_
        refine ⟨szl (by simp), fun l2 hl2 => ?_⟩
        have T11 := sm (o := .lst [V.ref q1, V.ref q2, V.ref q4, V.ref q5, V.ref q6, V.ref q8, V.ref q10]) hl2
        have a10 := T10.trans T11
        have a8 := (T8.trans T9).trans a10
        have a6 := (T6.trans T7).trans a8
        have a5 := T5.trans a6
        have a4 := T4.trans a5
        have a3 := T3.trans a4
        have a2 := T2.trans a3
        have all := T1.trans a2
        obtain ⟨e2, c2, b2⟩ := cut_dq (hA.same (T1.trans T2)) (some 1) none
        obtain ⟨e3, c3, b3⟩ := cut_dq (hA.same ((T1.trans T2).trans (T3.trans T4))) (some (-1)) none
        have A4 := hA.same ((T1.trans T2).trans (T3.trans T4))
        have z0 : Bd m 2 (ee - 1) (.int 0) := ⟨by simp [IB], by simp only [szD]; decide, by simp [PyData.depth]⟩
        have zn : Bd m 4 (ee - 1) .none := ⟨by simp [IB], by simp [szD], by simp [PyData.depth]⟩
        refine more 1 l [v2] _ [d2] [.list ds, .tuple e2, .tuple (ds ++ e3), .tuple ds.reverse, .tuple [.tuple ds], .tuple (ds ++ [.int 0]), .tuple (ds ++ [.none])] _ _ l2 _ (by decide) upd_same nl (.cons (hq2.same SL) .nil) (by simpa using hbv2) (by simp) (by simp) sx2 P3 all upd_same ?_ ?_ (by simp) ?_
        · refine .cons (Dq.same (.lst n1 (SqL.of upd_same) (hA.same T1)) a2) (.cons (Dq.same (.tup h2 c2) a3) (.cons (Dq.same (.tup h4 (A4.app c3)) a5) (.cons (Dq.same (.tup (SqT.of upd_same) (A4.rev.same T5)) a6) (.cons ?_ (.cons ?_ (.cons ?_ .nil))))))
          · exact Dq.same (.tup (SqT.of upd_same) (.cons (.tup hT6 (A4.same (T5.trans T6))) .nil)) (T7.trans a8)
          · exact Dq.same (.tup h8 ((A4.same (((T5.trans T6).trans T7).trans T8)).app (.cons (.int 0) .nil))) (T9.trans a10)
          · exact Dq.same (.tup h10 ((A4.same (((((T5.trans T6).trans T7).trans T8).trans T9).trans T10)).app (.cons .non .nil))) T11
        · intro x hx
          simp only [List.mem_cons, List.not_mem_nil, or_false] at hx
          have h3' := hbs.2.2
          have h4' := hbs.2.1
          rcases hx with rfl | rfl | rfl | rfl | rfl | rfl | rfl
          · exact (Bd.lst hbs.1).mono (by omega) (by omega) (by omega)
          · exact (Bd.tup (b2 _ _ _ hbs.1)).mono (by omega) (by omega) (by omega)
          · exact (Bd.tup (hbs.1.app (b3 _ _ _ hbs.1))).mono (by omega) (by omega) (by omega)
          · exact (Bd.tup hbs.1.rev).mono (by omega) (by omega) (by omega)
          · exact (Bd.tup (Bds.cons hb (Bds.nil (s := 0)))).mono (by omega) (by omega) (by omega)
          · exact (Bd.tup (hbs.1.app (Bds.cons z0 (Bds.nil (s := 0))))).mono (by omega) (by omega) (by omega)
          · exact (Bd.tup (hbs.1.app (Bds.cons zn (Bds.nil (s := 0))))).mono (by omega) (by omega) (by omega)
        · exact fun q G h => h
      · rintro σ' G ⟨l, vs, ds, rfl, hl, nl, hA, hB, h0, hlen, S, PP⟩
        have hdG := hd.mv hP S
        refine ⟨R 21, ?_, ?_⟩
        · refine ⟨_, rfl, ?_⟩
          refine isiOne hdG (kit_int d) ⟨_, rfl, ?_⟩
          rcases nonInt hdG with e | ⟨e, i, hnum, hib⟩
          · rw [e]
            exact iteF ⟨l, vs, ds, rfl, hl, nl, hA, hB, h0, by omega, S, PP⟩
          rw [e]
          refine iteT ?_
          have hi := hib m (by omega) hb.ib
          have h31 : (10 : Nat) ^ 31 + 1 < 2 ^ 200 := by decide
          refine ⟨_, rfl, _, rfl, i, 1, hnum, rfl, _, rfl, i, 1, hnum, rfl, _, rfl, i, 1, hnum, rfl, _, rfl, ?_⟩
          refine ⟨_, i, rfl, hnum, by have := log_small hi (by omega); omega, fun z hz => ⟨szl (by simp), fun l2 hl2 => ?_⟩⟩
          refine more 11 l vs _ ds [.int (i + 1), .int (i - 1), .none, .bool (decide (i = 1)), .str (Str.ofString z)] G _ l2 _ (by decide) hl nl hA hB h0 hlen S PP (sm hl2) upd_same ?_ ?_ (by simp) ?_
          · exact .cons (.int _) (.cons (.int _) (.cons .non (.cons (.bl _) (.cons (.str _) .nil))))
          · intro x hx
            simp only [List.mem_cons, List.not_mem_nil, or_false] at hx
            rcases hx with rfl | rfl | rfl | rfl | rfl
            · exact small _ (by omega)
            · exact small _ (by omega)
            · exact ⟨by simp [IB], by simp only [szD]; omega, by simp [PyData.depth]⟩
            · exact ⟨by simp [IB], by simp only [szD]; omega, by simp [PyData.depth]⟩
            · refine ⟨by simp [IB], ?_, by simp [PyData.depth]⟩
              simp only [szD]
              have h1 := rep_len z
              have h2 := log_small hi (by omega)
              omega
          · exact fun q G h => h
        · rintro σ' G ⟨l, vs, ds, rfl, hl, nl, hA, hB, h0, hlen, S, PP⟩
          refine ⟨R 31, ?_, ?_⟩
          · refine ⟨_, rfl, rfl, _, rfl, ?_⟩
            refine ite2 (fun hv => ?_) (fun hv => ?_)
            · refine ⟨_, rfl, szl (by simp), fun l2 hl2 => ?_⟩
              refine more 21 l vs _ ds [.int 0, .int 1, .int 7, .int 8] G _ l2 _ (by decide) hl nl hA hB h0 hlen S PP (sm hl2) upd_same (.cons (.int 0) (.cons (.int 1) (.cons (.int 7) (.cons (.int 8) .nil)))) ?_ (by simp) fun q G h => h
              intro x hx
              simp only [List.mem_cons, List.not_mem_nil, or_false] at hx
              rcases hx with rfl | rfl | rfl | rfl <;> exact small _ (by simp <;> omega)
            · exact ⟨l, vs, ds, rfl, hl, nl, hA, hB, h0, by omega, S, PP⟩
          · rintro σ' G ⟨l, vs, ds, rfl, hl, nl, hA, hB, h0, hlen, S, PP⟩
            refine ⟨_, rfl, _, rfl, p, l, vs, n + 21, rfl, hl, nl, h0, by omega, PP, by omega, fun H1 i v1 s1 Q1 e1 => ?_⟩
            obtain ⟨dd, e2, hq⟩ := hA.get e1
            exact k H1 v1 dd (S.trans s1) (Q1.mono (by omega)) (hq.mv PP s1) (hB dd (List.mem_of_getElem? e2))
theorem ok_bent {f : Addr} {fd : FuncData} (F : Fun K "_law_bent" "_law_bent" s_bent f fd) (T : Bt mg) (c_take : Cal P w K mg base 1 "_law_take" spTake []) (c_of : Cal P w K mg base 2 "_law_of" spOf []) (c_odd : Cal P w K mg base 3 "_law_odd" (spOdd K) [])
    (hm : mg "_law_bent" = some (.ref f)) (hk : PySem.W.keepIn K (.ref f) = true) (hb : Binds K fd ["_law_pot_here", "_law_thing"] []) : ∀ D, FnOk P w K mg base CX0 (4 + D) f fd ["_law_pot_here", "_law_thing"] (spBent K D)
  | 0 => ⟨fun vs H Q E h => h.1, fun A outer s H args us vs Q E _ _ _ _ h => h.2.elim⟩
  | D + 1 => bent_step F T c_take c_of c_odd D ⟨f, fd, _, [], ok_bent F T c_take c_of c_odd hm hk hb D, hm, hk, hb, .nil⟩
end
end LA

namespace LA
open PySem L2
open C8 (Cal pe_c)
/-- a tuple of this length -/
def isTL (n : Nat) : PyData → Bool
  | .tuple ds => decide (ds.length = n)
  | _ => false
def spTL (K : PySem.W.Frag) : Sp := fun vs H Q _ => ∃ (p : Addr) (Z : Addr → Prop) (v : V) (d : PyData) (n : Nat), vs = [v, .int (n : Int)] ∧ Dq K p Z H v d ∧ Q (.bl (isTL n d)) H
theorem tl_of {K : PySem.W.Frag} {p : Addr} {Z : Addr → Prop} {H : Hp} {v : V} {d : PyData} {n : Nat} (h : Dq K p Z H v d) : isTL n d = false ∨ isTL n d = true ∧ ∃ a xs ds, v = .ref a ∧ d = .tuple ds ∧ ds.length = n ∧ SqT K H a xs ∧ DqAll K p Z H xs ds := by
  cases h with
  | @tup a xs ds hs ha =>
    by_cases e : ds.length = n
    · exact .inr ⟨decide_eq_true e, _, _, _, rfl, rfl, e, hs, ha⟩
    · exact .inl (decide_eq_false e)
  | _ => exact .inl rfl
theorem tl_no {n : Nat} {d : PyData} (h : isTL n d = false) : isTup d = false ∨ ∃ ds, d = .tuple ds ∧ ds.length ≠ n := by
  cases d with
  | tuple ds => exact .inr ⟨ds, rfl, of_decide_eq_false h⟩
  | _ => exact .inl rfl
section
variable {P : Program} {w : World} {K : PySem.W.Frag} {mg : Str → Option Value} {base : Heap}
abbrev s_is_number_below : Stmt := topS 3
abbrev N_is_number_below : List Str := ["value", "limit"]
theorem sc_is_number_below : FnScope N_is_number_below ["value", "limit"] (defScope s_is_number_below) := ⟨rfl, rfl, rfl, by decide +kernel, rfl, by decide +kernel, by decide +kernel⟩
theorem ok_is_number_below {f : Addr} {fd : FuncData} (F : Fun K "is_number_below" "is_number_below" s_is_number_below f fd) (T : Bt mg) : FnOk P w K mg base CX0 1 f fd ["value", "limit"] (spNB K) := by
  refine F.ok sc_is_number_below (fun vs H Q E h => ?_) (fun cdv A outer s H vs Q E hr h => ?_)
  · obtain ⟨p, Z, v, d, lim, rfl, _⟩ := h
    rfl
  · obtain ⟨p, Z, v, d, lim, rfl, hd, q⟩ := h
    refine ⟨_, (pss_cons (ps_if (PW.pt (pw_or (pt_val (pe_callB (isQK K) (by rfl) T.isinstance (by decide +kernel) (pa_cons (pv 0) (pa_cons (pe_bltn (v := .ty "bool") (u := .type "bool") (by rfl) T.bool (by decide +kernel) rfl) pa_nil)))) (pw_or1 (pt_not (pt_val (pe_callB (isQK K) (by rfl) T.isinstance (by decide +kernel) (pa_cons (pv 0) (pa_cons (pe_bltn (v := .ty "int") (u := .type "int") (by rfl) T.int (by decide +kernel) rfl) pa_nil))))))))
(pss_one (ps_ret pe_bl))
pss_nil)
(pss_one (ps_ret (pe_chain op_le op_lt pe_int (pv 0) (pv 1))))), ?_⟩
    refine ⟨_, rfl, isiOne hd (kit_bool d) ⟨_, rfl, ?_⟩⟩
    cases hd with
    | int i =>
      refine iteF ?_
      refine ⟨_, rfl, isiOne (K := K) (p := p) (Z := Z) (.int i) (kit_int _) ⟨_, rfl, iteF ?_⟩⟩
      refine ⟨_, rfl, _, _, rfl, rfl, _, rfl, ?_⟩
      by_cases h0 : (0 : Int) ≤ i
      · rw [decide_eq_true h0]
        refine iteT ⟨_, rfl, _, _, rfl, rfl, ?_⟩
        simp only [isNB, decide_eq_true h0, Bool.true_and] at q
        exact q
      · rw [decide_eq_false h0]
        refine iteF ?_
        simp only [isNB, decide_eq_false h0, Bool.false_and] at q
        exact q
    | bl b => exact iteT (iteT q)
    | non => exact iteF ⟨_, rfl, isiOne (K := K) (p := p) (Z := Z) .non (kit_int _) ⟨_, rfl, iteT q⟩⟩
    | str x => exact iteF ⟨_, rfl, isiOne (K := K) (p := p) (Z := Z) (.str x) (kit_int _) ⟨_, rfl, iteT q⟩⟩
    | lst h1 h2 h3 => exact iteF ⟨_, rfl, isiOne (K := K) (p := p) (Z := Z) (.lst h1 h2 h3) (kit_int _) ⟨_, rfl, iteT q⟩⟩
    | tup h1 h2 => exact iteF ⟨_, rfl, isiOne (K := K) (p := p) (Z := Z) (.tup h1 h2) (kit_int _) ⟨_, rfl, iteT q⟩⟩
    | dic0 h1 h2 => exact iteF ⟨_, rfl, isiOne (K := K) (p := p) (Z := Z) (.dic0 h1 h2) (kit_int _) ⟨_, rfl, iteT q⟩⟩
    | dic1 h1 h2 h3 => exact iteF ⟨_, rfl, isiOne (K := K) (p := p) (Z := Z) (.dic1 h1 h2 h3) (kit_int _) ⟨_, rfl, iteT q⟩⟩
abbrev s_is_index : Stmt := topS 26
abbrev N_is_index : List Str := ["_law_thing", "_law_limit"]
theorem sc_is_index : FnScope N_is_index ["_law_thing", "_law_limit"] (defScope s_is_index) := ⟨rfl, rfl, rfl, by decide +kernel, rfl, by decide +kernel, by decide +kernel⟩
theorem ok_is_index {f : Addr} {fd : FuncData} (F : Fun K "_law_is_index" "_law_is_index" s_is_index f fd) (T : Bt mg) : FnOk P w K mg base CX0 1 f fd ["_law_thing", "_law_limit"] (spNB K) := by
  refine F.ok sc_is_index (fun vs H Q E h => ?_) (fun cdv A outer s H vs Q E hr h => ?_)
  · obtain ⟨p, Z, v, d, lim, rfl, _⟩ := h
    rfl
  · obtain ⟨p, Z, v, d, lim, rfl, hd, q⟩ := h
    refine ⟨_, (pss_one (ps_ret (pe_and (pe_callB (isQK K) (by rfl) T.isinstance (by decide +kernel) (pa_cons (pv 0) (pa_cons (pe_bltn (v := .ty "int") (u := .type "int") (by rfl) T.int (by decide +kernel) rfl) pa_nil))) (pe_and (pe_not (pe_callB (isQK K) (by rfl) T.isinstance (by decide +kernel) (pa_cons (pv 0) (pa_cons (pe_bltn (v := .ty "bool") (u := .type "bool") (by rfl) T.bool (by decide +kernel) rfl) pa_nil)))) (pe_one (pe_chain op_le op_lt pe_int (pv 0) (pv 1))))))), ?_⟩
    refine ⟨_, rfl, isiOne hd (kit_int d) ⟨_, rfl, ?_⟩⟩
    cases hd with
    | int i =>
      refine iteT ?_
      refine ⟨_, rfl, isiOne (K := K) (p := p) (Z := Z) (.int i) (kit_bool _) ⟨_, rfl, _, rfl, iteT ?_⟩⟩
      refine ⟨_, rfl, _, _, rfl, rfl, _, rfl, ?_⟩
      by_cases h0 : (0 : Int) ≤ i
      · rw [decide_eq_true h0]
        refine iteT ⟨_, rfl, _, _, rfl, rfl, ?_⟩
        simp only [isNB, decide_eq_true h0, Bool.true_and] at q
        exact q
      · rw [decide_eq_false h0]
        refine iteF ?_
        simp only [isNB, decide_eq_false h0, Bool.false_and] at q
        exact q
    | bl b => exact iteT ⟨_, rfl, isiOne (K := K) (p := p) (Z := Z) (.bl b) (kit_bool _) ⟨_, rfl, _, rfl, iteF q⟩⟩
    | non => exact iteF q
    | str x => exact iteF q
    | lst h1 h2 h3 => exact iteF q
    | tup h1 h2 => exact iteF q
    | dic0 h1 h2 => exact iteF q
    | dic1 h1 h2 h3 => exact iteF q
abbrev s_input_count : Stmt := topS 10
abbrev N_input_count : List Str := ["judge"]
theorem sc_input_count : FnScope N_input_count ["judge"] (defScope s_input_count) := ⟨rfl, rfl, rfl, by decide +kernel, rfl, by decide +kernel, by decide +kernel⟩
theorem ok_input_count {f : Addr} {fd : FuncData} (F : Fun K "input_count" "input_count" s_input_count f fd) (T : Bt mg) : FnOk P w K mg base CX0 1 f fd ["judge"] (spInC K) := by
  refine F.ok sc_input_count (fun vs H Q E h => ?_) (fun cdv A outer s H vs Q E hr h => ?_)
  · obtain ⟨v, j, nx, ny, rfl, _⟩ := h
    rfl
  · obtain ⟨v, j, nx, ny, rfl, hJ, ij, q⟩ := h
    refine ⟨_, (pss_one (ps_ret (pe_callB (lenK K) (by rfl) T.len PySem.boot_len (pa_cons (pe_ix (ixTK K) (pv 0) pe_int (fun _ _ => rfl)) pa_nil)))), ?_⟩
    obtain ⟨a, b, c, us, ws, r, rfl, h1, h2, h3, h4, h5, h6, h7⟩ := hJ.first ij
    refine ⟨_, rfl, a, us, _, .ref b, rfl, rfl, h1, atI_nat (j := 0) h2, b, ws, rfl, .inr h3, ?_⟩
    rw [h4]; exact q
abbrev s_output_count : Stmt := topS 11
abbrev N_output_count : List Str := ["judge"]
theorem sc_output_count : FnScope N_output_count ["judge"] (defScope s_output_count) := ⟨rfl, rfl, rfl, by decide +kernel, rfl, by decide +kernel, by decide +kernel⟩
theorem ok_output_count {f : Addr} {fd : FuncData} (F : Fun K "output_count" "output_count" s_output_count f fd) (T : Bt mg) : FnOk P w K mg base CX0 1 f fd ["judge"] (spOutC K) := by
  refine F.ok sc_output_count (fun vs H Q E h => ?_) (fun cdv A outer s H vs Q E hr h => ?_)
  · obtain ⟨v, j, nx, ny, rfl, _⟩ := h
    rfl
  · obtain ⟨v, j, nx, ny, rfl, hJ, ij, q⟩ := h
    refine ⟨_, (pss_one (ps_ret (pe_callB (lenK K) (by rfl) T.len PySem.boot_len (pa_cons (pe_ix (ixTK K) (pe_ix (ixTK K) (pv 0) pe_int (fun _ _ => rfl)) pe_int (fun _ _ => rfl)) pa_nil)))), ?_⟩
    obtain ⟨a, b, c, us, ws, r, rfl, h1, h2, h3, h4, h5, h6, h7⟩ := hJ.first ij
    refine ⟨_, rfl, a, us, _, .ref b, rfl, rfl, h1, atI_nat (j := 0) h2, b, ws, _, .ref c, rfl, rfl, h3, atI_nat (j := 0) h5, c, _, rfl, .inr h6, ?_⟩
    rw [List.length_map, h7]; exact q
end
theorem isnone {K : PySem.W.Frag} {p : Addr} {Z : Addr → Prop} {H : Hp} {v : V} {d : PyData} (h : Dq K p Z H v d) : decide (v = V.non) = true ∧ d = .none ∨ decide (v = V.non) = false ∧ ∀ n, isEnt n d = isNB n d := by
  cases h with
  | non => exact .inl ⟨rfl, rfl⟩
  | _ => exact .inr ⟨by rfl, fun n => rfl⟩
section
variable {P : Program} {w : World} {K : PySem.W.Frag} {mg : Str → Option Value} {base : Heap}
abbrev s_is_entry : Stmt := topS 5
abbrev N_is_entry : List Str := ["value", "states"]
theorem sc_is_entry : FnScope N_is_entry ["value", "states"] (defScope s_is_entry) := ⟨rfl, rfl, rfl, by decide +kernel, rfl, by decide +kernel, by decide +kernel⟩
theorem ok_is_entry {f : Addr} {fd : FuncData} (F : Fun K "is_entry" "is_entry" s_is_entry f fd) (T : Bt mg) (c_is_number_below : Cal P w K mg base 1 "is_number_below" (spNB K) []) : FnOk P w K mg base CX0 2 f fd ["value", "states"] (spEnt K) := by
  refine F.ok sc_is_entry (fun vs H Q E h => ?_) (fun cdv A outer s H vs Q E hr h => ?_)
  · obtain ⟨p, Z, v, d, n, rfl, _⟩ := h
    rfl
  · obtain ⟨p, Z, v, d, n, rfl, hd, q⟩ := h
    refine ⟨_, (pss_one (ps_ret (pe_or (pe_cmpR op_isN (pv 0) pe_non (nomark _)) (pe_one (pe_c c_is_number_below hr (by decide) rfl (pa_cons (pv 0) (pa_cons (pv 1) pa_nil))))))), ?_⟩
    refine ⟨_, rfl, rfl, _, rfl, ?_⟩
    rcases isnone hd with ⟨e, rfl⟩ | ⟨e, e2⟩
    · rw [e]; exact iteT q
    · rw [e]
      refine iteF ⟨_, rfl, _, rfl, p, Z, v, d, n, rfl, hd, ?_⟩
      rw [← e2]; exact q
abbrev s_is_tuple_of_length : Stmt := topS 4
abbrev N_is_tuple_of_length : List Str := ["value", "length"]
theorem sc_is_tuple_of_length : FnScope N_is_tuple_of_length ["value", "length"] (defScope s_is_tuple_of_length) := ⟨rfl, rfl, rfl, by decide +kernel, rfl, by decide +kernel, by decide +kernel⟩
theorem ok_is_tuple_of_length {f : Addr} {fd : FuncData} (F : Fun K "is_tuple_of_length" "is_tuple_of_length" s_is_tuple_of_length f fd) (T : Bt mg) : FnOk P w K mg base CX0 1 f fd ["value", "length"] (spTL K) := by
  refine F.ok sc_is_tuple_of_length (fun vs H Q E h => ?_) (fun cdv A outer s H vs Q E hr h => ?_)
  · obtain ⟨p, Z, v, d, n, rfl, _⟩ := h
    rfl
  · obtain ⟨p, Z, v, d, n, rfl, hd, q⟩ := h
    refine ⟨_, (pss_one (ps_ret (pe_and (pe_callB (isQK K) (by rfl) T.isinstance (by decide +kernel) (pa_cons (pv 0) (pa_cons (pe_bltn (v := .ty "tuple") (u := .type "tuple") (by rfl) T.tuple (by decide +kernel) rfl) pa_nil))) (pe_one (pe_cmpR op_eq (pe_callB (lenK K) (by rfl) T.len PySem.boot_len (pa_cons (pv 0) pa_nil)) (pv 1) (nomark _)))))), ?_⟩
    refine ⟨_, rfl, isiOne hd (kit_tup d) ⟨_, rfl, ?_⟩⟩
    rcases nonTup hd with e | ⟨a, xs, ds, rfl, rfl, hT, hA⟩
    · rw [e]
      refine iteF ?_
      have : isTL n d = false := by cases d <;> first | rfl | cases e
      rw [← this]; exact q
    refine iteT ?_
    have hl := hA.len
    refine ⟨_, rfl, a, xs, rfl, .inr hT, _, rfl, rfl, ?_⟩
    have e : isTL n (.tuple ds) = decide (V.int ((xs.length : Nat) : Int) = V.int (n : Int)) := by
      unfold isTL
      rw [hl]
      exact decide_eq_decide.mpr ⟨fun z => by rw [z], fun z => by injection z with z; omega⟩
    rw [e] at q
    exact q
abbrev s_is_row : Stmt := topS 6
abbrev N_is_row : List Str := ["value", "states", "outputs", "entry"]
theorem sc_is_row : FnScope N_is_row ["value", "states", "outputs"] (defScope s_is_row) := ⟨rfl, rfl, rfl, by decide +kernel, rfl, by decide +kernel, by decide +kernel⟩
theorem ok_is_row {f : Addr} {fd : FuncData} (F : Fun K "is_row" "is_row" s_is_row f fd) (T : Bt mg) (c_is_tuple_of_length : Cal P w K mg base 1 "is_tuple_of_length" (spTL K) []) (c_is_entry : Cal P w K mg base 2 "is_entry" (spEnt K) []) : FnOk P w K mg base CX0 3 f fd ["value", "states", "outputs"] (spRw K) := by
  refine F.ok sc_is_row (fun vs H Q E h => ?_) (fun cdv A outer s H vs Q E hr h => ?_)
  · obtain ⟨p, Z, v, d, n, ny, rfl, _⟩ := h
    rfl
  · obtain ⟨p, Z, v, d, n, ny, rfl, hd, hz, q⟩ := h
    refine ⟨_, (pss_one (ps_ret (pe_and (pe_c c_is_tuple_of_length hr (by decide) rfl (pa_cons (pv 0) (pa_cons (pv 2) pa_nil))) (pe_one (pe_callB (cr_all rfl) (by rfl) T.all (by decide +kernel) (pa_cons (pe_lc (own := [("entry", 3)]) (g := (gName 3)) (tt := tYes) rfl sc_is_row.nd (piTK K (pv 0)) (blkOk_by (N := N_is_row) (sc := defScope s_is_row) (by decide +kernel)) (fun _ _ _ _ _ => (pg_name (i := 3) sc_is_row.nd rfl (Or.inl rfl))) (fun _ _ _ _ _ => pts_nil) (fun _ _ _ _ _ => (pe_c c_is_entry hr (by decide) rfl (pa_cons (pv 3) (pa_cons (pv 1) pa_nil))))) pa_nil)))))), ?_⟩
    refine ⟨_, rfl, _, rfl, p, Z, v, d, ny, rfl, hd, _, rfl, ?_⟩
    cases e0 : isTL ny d with
    | false =>
      refine iteF ?_
      have e : isRw n ny d = false := by
        rcases tl_no e0 with e | ⟨ds, rfl, e⟩
        · cases d <;> first | rfl | cases e
        · simp [isRw, e]
      rw [← e]; exact q H (Same.refl H)
    | true =>
      refine iteT ?_
      rcases tl_of (n := ny) hd with e | ⟨_, a, xs, ds, rfl, rfl, hne, hT, hA⟩
      · rw [e0] at e; cases e
      have hl := hA.len
      refine ⟨_, rfl, a, rfl, ⟨_, hT⟩, fun D hD => ?_⟩
      refine lc_tup (K := K) (a := a) (xs := xs) (fun i H' => H' D = some (.lst (((ds.take i).map (isEnt n)).map V.bl)) ∧ Same H H') ⟨upd_same, (Same.refl H).new hD⟩ (fun i H' _ ⟨_, z⟩ => (Same.t z).seq hT) ?_ ?_
      · rintro i x H1 hx ⟨h1, S1⟩
        obtain ⟨dx, e1, e2⟩ := (hA.same S1).get hx
        refine ⟨rfl, tyes ?_⟩
        refine ⟨_, rfl, _, rfl, p, Z, x, dx, n, rfl, e2, _, h1, takeLt hz, ?_, S1.own hD⟩
        rw [upd_same, List.take_add_one, e1]; simp
      · rintro H1 ⟨h1, S1⟩
        rw [hA.len, List.take_length] at h1
        refine ⟨D, _, rfl, SqL.of h1, ?_⟩
        have e : ((ds.map (isEnt n)).all id) = isRw n ny (.tuple ds) := by simp [isRw, hne]
        rw [e]; exact q H1 S1
abbrev s_is_state : Stmt := topS 7
abbrev N_is_state : List Str := ["value", "states", "inputs", "outputs", "row"]
theorem sc_is_state : FnScope N_is_state ["value", "states", "inputs", "outputs"] (defScope s_is_state) := ⟨rfl, rfl, rfl, by decide +kernel, rfl, by decide +kernel, by decide +kernel⟩
theorem ok_is_state {f : Addr} {fd : FuncData} (F : Fun K "is_state" "is_state" s_is_state f fd) (T : Bt mg) (c_is_tuple_of_length : Cal P w K mg base 1 "is_tuple_of_length" (spTL K) []) (c_is_row : Cal P w K mg base 3 "is_row" (spRw K) []) : FnOk P w K mg base CX0 4 f fd ["value", "states", "inputs", "outputs"] (spSt K) := by
  refine F.ok sc_is_state (fun vs H Q E h => ?_) (fun cdv A outer s H vs Q E hr h => ?_)
  · obtain ⟨p, Z, v, d, n, nx, ny, rfl, _⟩ := h
    rfl
  · obtain ⟨p, Z, v, d, n, nx, ny, rfl, hd, hz, q⟩ := h
    refine ⟨_, (pss_one (ps_ret (pe_and (pe_c c_is_tuple_of_length hr (by decide) rfl (pa_cons (pv 0) (pa_cons (pv 2) pa_nil))) (pe_one (pe_callB (cr_all rfl) (by rfl) T.all (by decide +kernel) (pa_cons (pe_lc (own := [("row", 4)]) (g := (gName 4)) (tt := tYes) rfl sc_is_state.nd (piTK K (pv 0)) (blkOk_by (N := N_is_state) (sc := defScope s_is_state) (by decide +kernel)) (fun _ _ _ _ _ => (pg_name (i := 4) sc_is_state.nd rfl (Or.inl rfl))) (fun _ _ _ _ _ => pts_nil) (fun _ _ _ _ _ => (pe_c c_is_row hr (by decide) rfl (pa_cons (pv 4) (pa_cons (pv 1) (pa_cons (pv 3) pa_nil)))))) pa_nil)))))), ?_⟩
    refine ⟨_, rfl, _, rfl, p, Z, v, d, nx, rfl, hd, _, rfl, ?_⟩
    cases e0 : isTL nx d with
    | false =>
      refine iteF ?_
      have e : isSt n nx ny d = false := by
        rcases tl_no e0 with e | ⟨ds, rfl, e⟩
        · cases d <;> first | rfl | cases e
        · simp [isSt, e]
      rw [← e]; exact q H (Same.refl H)
    | true =>
      refine iteT ?_
      rcases tl_of (n := nx) hd with e | ⟨_, a, xs, ds, rfl, rfl, hne, hT, hA⟩
      · rw [e0] at e; cases e
      have hl := hA.len
      refine ⟨_, rfl, a, rfl, ⟨_, hT⟩, fun D hD => ?_⟩
      refine lc_tup (K := K) (a := a) (xs := xs) (fun i H' => H' D = some (.lst (((ds.take i).map (isRw n ny)).map V.bl)) ∧ Same H H') ⟨upd_same, (Same.refl H).new hD⟩ (fun i H' _ ⟨_, z⟩ => (Same.t z).seq hT) ?_ ?_
      · rintro i x H1 hx ⟨h1, S1⟩
        obtain ⟨dx, e1, e2⟩ := (hA.same S1).get hx
        refine ⟨rfl, tyes ?_⟩
        refine ⟨_, rfl, _, rfl, _, rfl, p, Z, x, dx, n, ny, rfl, e2, szPart hz e1, fun H2 S2 => ⟨_, S2 _ _ h1, takeLt hz, ?_, (S1.trans S2).own hD⟩⟩
        rw [upd_same, List.take_add_one, e1]; simp
      · rintro H1 ⟨h1, S1⟩
        rw [hA.len, List.take_length] at h1
        refine ⟨D, _, rfl, SqL.of h1, ?_⟩
        have e : ((ds.map (isRw n ny)).all id) = isSt n nx ny (.tuple ds) := by simp [isSt, hne]
        rw [e]; exact q H1 S1
abbrev s_is_filled_tuple : Stmt := topS 8
abbrev N_is_filled_tuple : List Str := ["value", "most"]
theorem sc_is_filled_tuple : FnScope N_is_filled_tuple ["value", "most"] (defScope s_is_filled_tuple) := ⟨rfl, rfl, rfl, by decide +kernel, rfl, by decide +kernel, by decide +kernel⟩
theorem ok_is_filled_tuple {f : Addr} {fd : FuncData} (F : Fun K "is_filled_tuple" "is_filled_tuple" s_is_filled_tuple f fd) (T : Bt mg) : FnOk P w K mg base CX0 1 f fd ["value", "most"] (spFilled K) := by
  refine F.ok sc_is_filled_tuple (fun vs H Q E h => ?_) (fun cdv A outer s H vs Q E hr h => ?_)
  · obtain ⟨p, Z, v, d, m, rfl, _⟩ := h
    rfl
  · obtain ⟨p, Z, v, d, m, rfl, hd, q⟩ := h
    refine ⟨_, (pss_one (ps_ret (pe_and (pe_callB (isQK K) (by rfl) T.isinstance (by decide +kernel) (pa_cons (pv 0) (pa_cons (pe_bltn (v := .ty "tuple") (u := .type "tuple") (by rfl) T.tuple (by decide +kernel) rfl) pa_nil))) (pe_one (pe_chain op_le op_le pe_int (pe_callB (lenK K) (by rfl) T.len PySem.boot_len (pa_cons (pv 0) pa_nil)) (pv 1)))))), ?_⟩
    refine ⟨_, rfl, isiOne hd (kit_tup d) ⟨_, rfl, ?_⟩⟩
    rcases nonTup hd with e | ⟨a, xs, ds, rfl, rfl, hT, hA⟩
    · rw [e]
      refine iteF ?_
      have : filled m d = false := by cases d <;> first | rfl | cases e
      rw [← this]; exact q
    refine iteT ?_
    have hl := hA.len
    refine ⟨_, rfl, a, xs, rfl, .inr hT, _, _, rfl, rfl, _, rfl, ?_⟩
    refine ite2 (fun h1 => ?_) (fun h1 => ?_)
    · have h1' : 1 ≤ ds.length := by have := of_decide_eq_true h1; omega
      refine ⟨_, rfl, _, _, rfl, rfl, ?_⟩
      have e : decide ((xs.length : Int) ≤ (m : Int)) = filled m (.tuple ds) := by
        simp only [filled, decide_eq_true h1', Bool.true_and]
        exact decide_eq_decide.mpr ⟨fun z => by omega, fun z => by omega⟩
      show Q (.bl (decide ((xs.length : Int) ≤ (m : Int)))) H
      rw [e]; exact q
    · have h1' : ¬ 1 ≤ ds.length := by intro z; apply h1; apply decide_eq_true; omega
      have e : filled m (.tuple ds) = false := by simp only [filled, decide_eq_false h1', Bool.false_and]
      rw [← e]; exact q
end
end LA

namespace LA
open PySem L2
open C8 (Cal pe_c)
theorem filled_tup {m : Nat} {d : PyData} (h : filled m d = true) : ∃ ds, d = .tuple ds ∧ 1 ≤ ds.length ∧ ds.length ≤ m := by
  cases d with
  | tuple ds =>
    simp only [filled, Bool.and_eq_true, decide_eq_true_eq] at h
    exact ⟨ds, rfl, h.1, h.2⟩
  | _ => cases h
theorem dq_tup {K : PySem.W.Frag} {p : Addr} {Z : Addr → Prop} {H : Hp} {v : V} {ds : List PyData} (h : Dq K p Z H v (.tuple ds)) : ∃ a xs, v = .ref a ∧ SqT K H a xs ∧ DqAll K p Z H xs ds := by
  cases h with
  | tup hs ha => exact ⟨_, _, rfl, hs, ha⟩
theorem head_tup {ds : List PyData} {d : PyData} (h : ds[0]? = some d) : head (.tuple ds) = d := by
  cases ds with
  | nil => simp at h
  | cons a l => simp at h; simp [head, parts, h]
section
variable {P : Program} {w : World} {K : PySem.W.Frag} {mg : Str → Option Value} {base : Heap}
abbrev s_is_judge : Stmt := topS 9
abbrev N_is_judge : List Str := ["value", "first", "state"]
theorem sc_is_judge : FnScope N_is_judge ["value"] (defScope s_is_judge) := ⟨rfl, rfl, rfl, by decide +kernel, rfl, by decide +kernel, by decide +kernel⟩
theorem ok_is_judge {f : Addr} {fd : FuncData} (F : Fun K "is_judge" "is_judge" s_is_judge f fd) (T : Bt mg) (gs : ∃ t, mg "MOST_STATES" = some (.int 8 t)) (gl : ∃ t, mg "MOST_LETTERS" = some (.int 4 t)) (c_is_filled_tuple : Cal P w K mg base 1 "is_filled_tuple" (spFilled K) []) (c_is_state : Cal P w K mg base 4 "is_state" (spSt K) []) : FnOk P w K mg base CX0 5 f fd ["value"] (spJdg K) := by
  refine F.ok sc_is_judge (fun vs H Q E h => ?_) (fun cdv A outer s H vs Q E hr h => ?_)
  · obtain ⟨p, Z, v, d, rfl, _⟩ := h
    rfl
  · obtain ⟨p, Z, v, d, rfl, hd, hz, q⟩ := h
    obtain ⟨tS, g_MOST_STATES⟩ := gs
    obtain ⟨tL, g_MOST_LETTERS⟩ := gl
    refine ⟨_, (pss_cons (ps_if (pt_not (pt_val (pe_c c_is_filled_tuple hr (by decide) rfl (pa_cons (pv 0) (pa_cons (pe_glob (v := .int 8) (by rfl) g_MOST_STATES ⟨_, rfl⟩) pa_nil)))))
(pss_one (ps_ret pe_bl))
pss_nil)
(pss_cons (ps_set (i := 1) sc_is_judge.nd rfl (Or.inr rfl) (pe_ix (ixTK K) (pv 0) pe_int (fun _ _ => rfl)))
(pss_cons (ps_if (PW.pt (pw_or (pt_not (pt_val (pe_c c_is_filled_tuple hr (by decide) rfl (pa_cons (pv 1) (pa_cons (pe_glob (v := .int 4) (by rfl) g_MOST_LETTERS ⟨_, rfl⟩) pa_nil))))) (pw_or1 (pt_not (pt_val (pe_c c_is_filled_tuple hr (by decide) rfl (pa_cons (pe_ix (ixTK K) (pv 1) pe_int (fun _ _ => rfl)) (pa_cons (pe_glob (v := .int 4) (by rfl) g_MOST_LETTERS ⟨_, rfl⟩) pa_nil))))))))
(pss_one (ps_ret pe_bl))
pss_nil)
(pss_one (ps_ret (pe_callB (cr_all rfl) (by rfl) T.all (by decide +kernel) (pa_cons (pe_lc (own := [("state", 2)]) (g := (gName 2)) (tt := tYes) rfl sc_is_judge.nd (piTK K (pv 0)) (blkOk_by (N := N_is_judge) (sc := defScope s_is_judge) (by decide +kernel)) (fun _ _ _ _ _ => (pg_name (i := 2) sc_is_judge.nd rfl (Or.inl rfl))) (fun _ _ _ _ _ => pts_nil) (fun _ _ _ _ _ => (pe_c c_is_state hr (by decide) rfl (pa_cons (pv 2) (pa_cons (pe_callB (lenK K) (by rfl) T.len PySem.boot_len (pa_cons (pv 0) pa_nil)) (pa_cons (pe_callB (lenK K) (by rfl) T.len PySem.boot_len (pa_cons (pv 1) pa_nil)) (pa_cons (pe_callB (lenK K) (by rfl) T.len PySem.boot_len (pa_cons (pe_ix (ixTK K) (pv 1) pe_int (fun _ _ => rfl)) pa_nil)) pa_nil))))))) pa_nil))))))), ?_⟩
    refine ⟨_, rfl, p, Z, v, d, 8, rfl, hd, _, rfl, ?_⟩
    cases h8 : filled 8 d with
    | false =>
      refine iteT ?_
      have e : isJdg d = false := by simp [isJdg, h8]
      rw [← e]; exact q H (Same.refl H)
    | true =>
      refine iteF ?_
      obtain ⟨ds, rfl, l1, l8⟩ := filled_tup h8
      obtain ⟨a, xs, rfl, hT, hA⟩ := dq_tup hd
      have hl := hA.len
      obtain ⟨x0, hx0⟩ : ∃ x0, xs[0]? = some x0 := ⟨xs[0]'(by omega), List.getElem?_eq_getElem _⟩
      obtain ⟨d0, e0, q0⟩ := hA.get hx0
      have hh := head_tup e0
      refine ⟨_, rfl, a, xs, _, x0, rfl, rfl, hT, atI_nat (j := 0) hx0, ?_⟩
      refine ⟨_, rfl, p, Z, x0, d0, 4, rfl, q0, _, rfl, ?_⟩
      cases h4 : filled 4 d0 with
      | false =>
        refine iteT (iteT ?_)
        have e : isJdg (.tuple ds) = false := by simp [isJdg, hh, h4]
        rw [← e]; exact q H (Same.refl H)
      | true =>
        refine iteF ?_
        obtain ⟨rs, rfl, r1, r4⟩ := filled_tup h4
        obtain ⟨b, ys, rfl, hT2, hA2⟩ := dq_tup q0
        have hl2 := hA2.len
        obtain ⟨y0, hy0⟩ : ∃ y0, ys[0]? = some y0 := ⟨ys[0]'(by omega), List.getElem?_eq_getElem _⟩
        obtain ⟨d1, e1, q1⟩ := hA2.get hy0
        have hh2 := head_tup e1
        refine ⟨_, rfl, b, ys, _, y0, rfl, rfl, hT2, atI_nat (j := 0) hy0, p, Z, y0, d1, 4, rfl, q1, _, rfl, ?_⟩
        cases h5 : filled 4 d1 with
        | false =>
          refine iteT ?_
          have e : isJdg (.tuple ds) = false := by simp [isJdg, hh, hh2, h5]
          rw [← e]; exact q H (Same.refl H)
        | true =>
          refine iteF ?_
          obtain ⟨es, rfl, c1, c4⟩ := filled_tup h5
          obtain ⟨c, zs, rfl, hT3, hA3⟩ := dq_tup q1
          have hl3 := hA3.len
          refine ⟨_, rfl, a, rfl, ⟨_, hT⟩, fun D hD => ?_⟩
          refine lc_tup (K := K) (a := a) (xs := xs) (fun i H' => H' D = some (.lst (((ds.take i).map (isSt (ds.length : Int) rs.length es.length)).map V.bl)) ∧ Same H H') ⟨upd_same, (Same.refl H).new hD⟩ (fun i H' _ ⟨_, z⟩ => (Same.t z).seq hT) ?_ ?_
          · rintro i x H1 hx ⟨g1, S1⟩
            obtain ⟨dx, e2, e3⟩ := (hA.same S1).get hx
            refine ⟨rfl, tyes ?_⟩
            refine ⟨_, rfl, _, rfl, a, xs, rfl, .inr ((Same.t S1).seq hT), ?_⟩
            refine ⟨_, rfl, b, ys, rfl, .inr ((Same.t S1).seq hT2), ?_⟩
            refine ⟨_, rfl, b, ys, _, _, rfl, rfl, (Same.t S1).seq hT2, atI_nat (j := 0) hy0, c, zs, rfl, .inr ((Same.t S1).seq hT3), ?_⟩
            rw [hl, hl2, hl3]
            refine ⟨p, Z, x, dx, _, rs.length, es.length, rfl, e3, szPart hz e2, fun H2 S2 => ⟨_, S2 _ _ g1, takeLt hz, ?_, (S1.trans S2).own hD⟩⟩
            rw [upd_same, List.take_add_one, e2]; simp
          · rintro H1 ⟨g1, S1⟩
            rw [hA.len, List.take_length] at g1
            refine ⟨D, _, rfl, SqL.of g1, ?_⟩
            have e : ((ds.map (isSt (ds.length : Int) rs.length es.length)).all id) = isJdg (.tuple ds) := by
              simp [isJdg, hh, hh2, h8, h4, h5, parts]
            rw [e]; exact q H1 S1
end
end LA

namespace LA
open PySem L2
open C8 (Cal pe_c)
theorem nf {m : Nat} {d : PyData} (h : isTup d = false) : filled m d = false := by cases d <;> first | rfl | cases h
/-- not isinstance(x, tuple) or not 0 < len(x) < M -/
theorem tst_filled {K : PySem.W.Frag} {p : Addr} {Z : Addr → Prop} {σ : L2.St} {H : Hp} {v : V} {d : PyData} {i m : Nat} {M : Int} {Qb : Bool → Hp → Prop} (hv : σ[i]? = some (some v)) (hd : Dq K p Z H v d) (hM : M = (m : Int) + 1) (q : Qb (!filled m d) H) :
    tOr (tNot (tB (tCB (IsQ K) (tCons (tVar i) (tCons (tC (.ty "tuple")) tNil))))) (tNot (tTest (tChain (rI0 fun i j => V.bl (decide (i < j))) (rI0 fun i j => V.bl (decide (i < j))) (tC (.int 0))
      (tCB (fun xs H Q => ∃ p ys, xs = [V.ref p] ∧ (SqL K H p ys ∨ SqT K H p ys) ∧ Q (V.int (ys.length : Int)) H) (tCons (tVar i) tNil)) (tC (.int M))))) σ H Qb := by
  refine ⟨v, hv, isiOne hd (kit_tup d) ⟨_, rfl, ?_⟩⟩
  rcases nonTup hd with e | ⟨a, xs, ds, rfl, rfl, hT, hA⟩
  · rw [e]
    refine iteT ?_
    rw [nf e] at q; exact q
  · refine iteF ?_
    have hl := hA.len
    refine ⟨_, hv, a, xs, rfl, .inr hT, _, _, rfl, rfl, _, rfl, ?_⟩
    refine ite2 (fun h1 => ?_) (fun h1 => ?_)
    · refine ⟨_, _, rfl, rfl, _, rfl, ?_⟩
      have h1' : 1 ≤ ds.length := by have := of_decide_eq_true h1; omega
      have e : filled m (.tuple ds) = decide ((xs.length : Int) < M) := by
        simp only [filled, decide_eq_true h1', Bool.true_and]
        exact decide_eq_decide.mpr ⟨fun z => by omega, fun z => by omega⟩
      rw [e] at q; exact q
    · have h1' : ¬ 1 ≤ ds.length := by intro z; apply h1; apply decide_eq_true; omega
      have e : filled m (.tuple ds) = false := by simp only [filled, decide_eq_false h1', Bool.false_and]
      rw [e] at q; exact ⟨_, rfl, q⟩
theorem szl1 {n : Nat} (h : n ≤ 1000) : n < sizeLine := Nat.lt_of_le_of_lt h (by decide)
section
variable {P : Program} {w : World} {K : PySem.W.Frag} {mg : Str → Option Value} {base : Heap}
abbrev s_law_is_judge : Stmt := topS 28
abbrev N_law_is_judge : List Str := ["_law_thing", "_law_shapes", "_law_rows", "_law_row", "_law_entry"]
theorem sc_law_is_judge : FnScope N_law_is_judge ["_law_thing"] (defScope s_law_is_judge) := ⟨rfl, rfl, rfl, by decide +kernel, rfl, by decide +kernel, by decide +kernel⟩
theorem ok_law_is_judge {f : Addr} {fd : FuncData} (F : Fun K "_law_is_judge" "_law_is_judge" s_law_is_judge f fd) (T : Bt mg) (c_is_index : Cal P w K mg base 1 "_law_is_index" (spNB K) []) : FnOk P w K mg base CX0 2 f fd ["_law_thing"] (spJdg K) := by
  refine F.ok sc_law_is_judge (fun vs H Q E h => ?_) (fun cdv A outer s H vs Q E hr h => ?_)
  · obtain ⟨p, Z, v, d, rfl, _⟩ := h
    rfl
  · obtain ⟨p, Z, v, d, rfl, hd, hz, q⟩ := h
    have hu64 := hr.units
    refine ⟨_, (C8.pss_cut (ps_if (PW.pt (pw_or (pt_not (pt_val (pe_callB (isQK K) (by rfl) T.isinstance (by decide +kernel) (pa_cons (pv 0) (pa_cons (pe_bltn (v := .ty "tuple") (u := .type "tuple") (by rfl) T.tuple (by decide +kernel) rfl) pa_nil))))) (pw_or1 (pt_not (pt_chain op_lt op_lt pe_int (pe_callB (lenK K) (by rfl) T.len PySem.boot_len (pa_cons (pv 0) pa_nil)) pe_int)))))
(pss_one (ps_ret pe_bl))
pss_nil)
(pss_cons (ps_set (i := 1) sc_law_is_judge.nd rfl (Or.inl rfl) (pe_lst pa_nil))
(pss_cons (ps_for PassesOwn.never rfl (piTK K (pv 0)) (pg_name (i := 2) sc_law_is_judge.nd rfl (Or.inl rfl))
(C8.pss_cut (ps_if (PW.pt (pw_or (pt_not (pt_val (pe_callB (isQK K) (by rfl) T.isinstance (by decide +kernel) (pa_cons (pv 2) (pa_cons (pe_bltn (v := .ty "tuple") (u := .type "tuple") (by rfl) T.tuple (by decide +kernel) rfl) pa_nil))))) (pw_or1 (pt_not (pt_chain op_lt op_lt pe_int (pe_callB (lenK K) (by rfl) T.len PySem.boot_len (pa_cons (pv 2) pa_nil)) pe_int)))))
(pss_one (ps_ret pe_bl))
pss_nil)
(pss_one (ps_for PassesOwn.never rfl (piTK K (pv 2)) (pg_name (i := 3) sc_law_is_judge.nd rfl (Or.inl rfl))
(C8.pss_cut (ps_if (PW.pt (pw_or (pt_not (pt_val (pe_callB (isQK K) (by rfl) T.isinstance (by decide +kernel) (pa_cons (pv 3) (pa_cons (pe_bltn (v := .ty "tuple") (u := .type "tuple") (by rfl) T.tuple (by decide +kernel) rfl) pa_nil))))) (pw_or1 (pt_not (pt_chain op_lt op_lt pe_int (pe_callB (lenK K) (by rfl) T.len PySem.boot_len (pa_cons (pv 3) pa_nil)) pe_int)))))
(pss_one (ps_ret pe_bl))
pss_nil)
(C8.pss_cut (ps_if (pt_not (pt_val (pe_callB (cr_all rfl) (by rfl) T.all (by decide +kernel) (pa_cons (pe_lc (own := [("_law_entry", 4)]) (g := (gName 4)) (tt := tYes) rfl sc_law_is_judge.nd (piTK K (pv 3)) (blkOk_by (N := N_law_is_judge) (sc := defScope s_law_is_judge) (by decide +kernel)) (fun _ _ _ _ _ => (pg_name (i := 4) sc_law_is_judge.nd rfl (Or.inl rfl))) (fun _ _ _ _ _ => pts_nil) (fun _ _ _ _ _ => (pe_or (pe_cmpR op_isN (pv 4) pe_non (nomark _)) (pe_one (pe_c c_is_index hr (by decide) rfl (pa_cons (pv 4) (pa_cons (pe_callB (lenK K) (by rfl) T.len PySem.boot_len (pa_cons (pv 0) pa_nil)) pa_nil))))))) pa_nil))))
(pss_one (ps_ret pe_bl))
pss_nil)
(pss_one (ps_expr (pe_bm PySem.F.plainAttrs_list PySem.F.slot_list_append PySem.F.type_list_append mt_append (pv 1) (pa_cons (pe_tup (pa_cons (pe_callB (lenK K) (by rfl) T.len PySem.boot_len (pa_cons (pv 2) pa_nil)) (pa_cons (pe_callB (lenK K) (by rfl) T.len PySem.boot_len (pa_cons (pv 3) pa_nil)) pa_nil))) pa_nil))))))))))
(pss_one (ps_ret (pe_cmpR op_eq (pe_callB (lenSTK P w) (by rfl) T.len PySem.boot_len (pa_cons (pe_callTy (setTK K P w rfl hu64) (by rfl) T.set (by decide +kernel) (pa_cons (pv 1) pa_nil)) pa_nil)) pe_int (nomark _))))))), ?_⟩
    refine ⟨fun σ' H' => σ' = [some v, none, none, none, none] ∧ H' = H ∧ filled 8 d = true, ?_, ?_⟩
    · show tOr _ _ _ _ _
      refine tst_filled (m := 8) rfl hd rfl ?_
      cases e : filled 8 d with
      | true => exact iteF ⟨rfl, rfl, rfl⟩
      | false =>
        refine iteT ?_
        have : isJdg d = false := by simp [isJdg, e]
        rw [← this]; exact q H (Same.refl H)
    · rintro σ' H' ⟨rfl, rfl, h8⟩
      obtain ⟨ds, rfl, l1, l8⟩ := filled_tup h8
      obtain ⟨a, xs, rfl, hT, hA⟩ := dq_tup hd
      have hl := hA.len
      refine ⟨szl (by simp), fun sl hsl => ?_⟩
      have TS := sm (o := .lst []) hsl
      refine ⟨_, rfl, a, rfl, ⟨_, (Same.t TS).seq hT⟩, for_tup (K := K) (a := a) (xs := xs) (fun i σ G => ∃ (v2 v3 : Option V) (ks : List (Addr × List Int)), σ = [some (.ref a), some (.ref sl), v2, v3, none] ∧ G sl = some (.lst (ks.map fun p => V.ref p.1)) ∧ (∀ p ∈ ks, SqT K G p.1 (p.2.map V.int)) ∧
          ks.map (·.2) = (ds.take i).flatMap shp ∧ (∀ d ∈ ds.take i, okS ds.length d = true) ∧ ks.length ≤ 4 * i ∧ Same H' G)
        ⟨none, none, [], rfl, upd_same, nofun, by simp, by simp, by simp, TS⟩ (fun i σ G _ ⟨_, _, _, _, _, _, _, _, _, z⟩ => (Same.t z).seq hT) ?_ ?_⟩
      · rintro i x σ G hx ⟨v2, v3, ks, rfl, hks, hkt, hkv, hok, hkl, S⟩
        obtain ⟨dx, ex, qx0⟩ := hA.get hx
        have qx := qx0.same S
        have hmem : dx ∈ ds := List.mem_of_getElem? ex
        have hi8 : i < ds.length := (List.getElem?_eq_some_iff.mp ex).1
        refine ⟨fun σ' G' => σ' = [some (.ref a), some (.ref sl), some x, v3, none] ∧ G' = G ∧ filled 4 dx = true, ?_, ?_⟩
        · show tOr _ _ _ _ _
          refine tst_filled (m := 4) rfl qx rfl ?_
          cases e : filled 4 dx with
          | true => exact iteF ⟨rfl, rfl, rfl⟩
          | false =>
            refine iteT ?_
            have : isJdg (.tuple ds) = false := jdg_not hmem (by simp [okS, e])
            rw [← this]; exact q G S
        · rintro σ' G' ⟨rfl, rfl, h4⟩
          obtain ⟨rs, rfl, r1, r4⟩ := filled_tup h4
          obtain ⟨b, ys, rfl, hT2, hA2⟩ := dq_tup qx0
          have hl2 := hA2.len
          refine ⟨_, rfl, b, rfl, ⟨_, (Same.t S).seq hT2⟩, for_tup (K := K) (a := b) (xs := ys) (fun c σ G2 => ∃ (v3 : Option V) (ks : List (Addr × List Int)), σ = [some (.ref a), some (.ref sl), some (.ref b), v3, none] ∧ G2 sl = some (.lst (ks.map fun p => V.ref p.1)) ∧ (∀ p ∈ ks, SqT K G2 p.1 (p.2.map V.int)) ∧
              ks.map (·.2) = (ds.take i).flatMap shp ++ (shp (.tuple rs)).take c ∧ (∀ r ∈ rs.take c, okR ds.length r = true) ∧ ks.length ≤ 4 * i + c ∧ Same H' G2)
            ⟨v3, ks, rfl, hks, hkt, by simpa using hkv, by simp, hkl, S⟩ (fun c σ G2 _ ⟨_, _, _, _, _, _, _, _, z⟩ => (Same.t z).seq hT2) ?_ ?_⟩
          · rintro c y σ G2 hy ⟨v3, ks2, rfl, hks2, hkt2, hkv2, hok2, hkl2, S2⟩
            obtain ⟨dr, er, qr0⟩ := hA2.get hy
            have qr := qr0.same S2
            have hrm : dr ∈ rs := List.mem_of_getElem? er
            have hcl : c < rs.length := (List.getElem?_eq_some_iff.mp er).1
            refine ⟨fun σ' G3 => σ' = [some (.ref a), some (.ref sl), some (.ref b), some y, none] ∧ G3 = G2 ∧ filled 4 dr = true, ?_, ?_⟩
            · show tOr _ _ _ _ _
              refine tst_filled (m := 4) rfl qr rfl ?_
              cases e : filled 4 dr with
              | true => exact iteF ⟨rfl, rfl, rfl⟩
              | false =>
                refine iteT ?_
                have : isJdg (.tuple ds) = false := jdg_not hmem (okS_not hrm (by simp [okR, e]))
                rw [← this]; exact q G2 S2
            · rintro σ' G3 ⟨rfl, rfl, h4r⟩
              obtain ⟨es, rfl, e1, e4⟩ := filled_tup h4r
              obtain ⟨ca, zs, rfl, hT3, hA3⟩ := dq_tup qr0
              have hl3 := hA3.len
              have hze : szD (.tuple es) ≤ 1000000 := szPart (szPart hz ex) er
              refine ⟨fun σ' G4 => σ' = [some (.ref a), some (.ref sl), some (.ref b), some (.ref ca), none] ∧ es.all (isEnt (ds.length : Int)) = true ∧ Same G3 G4, ?_, ?_⟩
              · refine ⟨_, rfl, ca, rfl, ⟨_, (Same.t S2).seq hT3⟩, fun D hD => ?_⟩
                refine lc_tup (K := K) (a := ca) (xs := zs) (fun t H' => H' D = some (.lst (((es.take t).map (isEnt (ds.length : Int))).map V.bl)) ∧ Same G3 H') ⟨upd_same, sm hD⟩ (fun t H' _ ⟨_, z⟩ => (Same.t (S2.trans z)).seq hT3) ?_ ?_
                · rintro t x H1 hx1 ⟨g1, S1⟩
                  have S12 := S2.trans S1
                  obtain ⟨de, ee, qe⟩ := (hA3.same S12).get hx1
                  refine ⟨rfl, tyes ?_⟩
                  have put : ∀ (H2 : Hp) (bb : Bool), Same H1 H2 → bb = isEnt (ds.length : Int) de → ∃ acc, H2 D = some (.lst acc) ∧ acc.length < sizeLine ∧ ((upd H2 D (.lst (acc ++ [V.bl bb]))) D = some (.lst (((es.take (t + 1)).map (isEnt (ds.length : Int))).map V.bl)) ∧ Same G3 (upd H2 D (.lst (acc ++ [V.bl bb])))) := by
                    intro H2 bb S3 eb
                    refine ⟨_, S3 _ _ g1, takeLt hze, ?_, (S1.trans S3).own hD⟩
                    rw [upd_same, List.take_add_one, ee, eb]; simp
                  refine ⟨_, rfl, rfl, _, rfl, ?_⟩
                  rcases isnone qe with ⟨e5, rfl⟩ | ⟨e5, e6⟩
                  · rw [e5]
                    exact iteT (put H1 true (Same.refl H1) rfl)
                  · rw [e5]
                    refine iteF ⟨_, rfl, _, rfl, a, xs, rfl, .inr ((Same.t S12).seq hT), p, Z, x, de, _, rfl, qe, ?_⟩
                    rw [hl]
                    exact put H1 _ (Same.refl H1) (e6 _).symm
                · rintro H1 ⟨g1, S1⟩
                  rw [hl3, List.take_length] at g1
                  refine ⟨D, _, rfl, SqL.of g1, _, rfl, ?_⟩
                  have e7 : ((es.map (isEnt (ds.length : Int))).all id) = es.all (isEnt (ds.length : Int)) := by simp
                  rw [e7]
                  cases e8 : es.all (isEnt (ds.length : Int)) with
                  | true => exact iteF ⟨rfl, rfl, S1⟩
                  | false =>
                    refine iteT ?_
                    have : isJdg (.tuple ds) = false := jdg_not hmem (okS_not hrm (by simp only [okR, parts, e8, Bool.and_false]))
                    rw [← this]; exact q H1 (S2.trans S1)
              · rintro σ' G4 ⟨rfl, hall, S4⟩
                have S24 := S2.trans S4
                have hks4 := S4 _ _ hks2
                refine ⟨_, rfl, .inl ⟨rfl, _, SqL.of hks4⟩, _, rfl, b, ys, rfl, .inr ((Same.t S24).seq hT2), _, rfl, ca, zs, rfl, .inr ((Same.t S24).seq hT3), szl (by simp), fun tl htl => ?_⟩
                have nst : sl ≠ tl := ne_of_none hks4 htl
                have TT := sm (o := .tup [V.int (ys.length : Int), V.int (zs.length : Int)]) htl
                refine ⟨sl, _, _, rfl, rfl, (upd_ne nst).trans hks4, szl1 (by simp; omega), ?_⟩
                have stL := SameT.lst (ys := (ks2.map fun p => V.ref p.1) ++ [V.ref tl]) ((upd_ne (o := .tup [V.int (ys.length : Int), V.int (zs.length : Int)]) nst).trans hks4)
                refine ⟨_, ks2 ++ [(tl, [(rs.length : Int), (es.length : Int)])], rfl, by rw [upd_same]; simp, fun pr hpr => ?_, ?_, fun r hr => ?_, by simp; omega, (S24.trans TT).own hsl⟩
                · rcases List.mem_append.mp hpr with hpr | hpr
                  · exact stL.seq ((Same.t (S4.trans TT)).seq (hkt2 pr hpr))
                  · have : pr = (tl, [(rs.length : Int), (es.length : Int)]) := by simpa using hpr
                    subst this
                    have e9 : SqT K (upd G4 tl (.tup [V.int (ys.length : Int), V.int (zs.length : Int)])) tl [V.int (ys.length : Int), V.int (zs.length : Int)] := SqT.of upd_same
                    rw [hl2, hl3] at e9 ⊢
                    rw [hl2, hl3] at stL
                    exact stL.seq e9
                · rw [List.map_append, hkv2, shp_at er, List.append_assoc]; rfl
                · rw [List.take_add_one, er] at hr
                  rcases List.mem_append.mp hr with hr | hr
                  · exact hok2 r hr
                  · have : r = .tuple es := by simpa using hr
                    subst this
                    simp only [okR, parts, hall, h4r, Bool.and_self]
          · rintro σ G2 ⟨v3, ks2, rfl, hks2, hkt2, hkv2, hok2, hkl2, S2⟩
            rw [hl2, List.take_length] at hok2
            have e1 : (shp (.tuple rs)).take ys.length = shp (.tuple rs) := List.take_of_length_le (by simp [shp, parts]; omega)
            rw [e1] at hkv2
            refine ⟨_, _, ks2, rfl, hks2, hkt2, ?_, fun d hd' => ?_, by omega, S2⟩
            · rw [hkv2, flat_take shp ds i _ ex]
            · rw [List.take_add_one, ex] at hd'
              rcases List.mem_append.mp hd' with hd' | hd'
              · exact hok d hd'
              · have : d = .tuple rs := by simpa using hd'
                subst this
                simp only [okS, h4, Bool.true_and, parts]
                exact all_iff.mpr hok2
      · rintro σ G ⟨v2, v3, ks, rfl, hks, hkt, hkv, hok, hkl, S⟩
        rw [hl, List.take_length] at hkv hok
        refine ⟨_, rfl, sl, ks, rfl, SqL.of hks, hkt, by omega, fun sa L hsa h1 h2 => ?_⟩
        refine ⟨sa, L, rfl, upd_same, fun hn => ?_⟩
        refine ⟨rfl, ?_⟩
        rw [set_one l1 l8 hok hkv h1 h2 hn]
        exact q _ (S.new hsa)
end
end LA

namespace LA
open PySem L2
open C8 (Cal pe_c)
section
variable {P : Program} {w : World} {K : PySem.W.Frag} {mg : Str → Option Value} {base : Heap}
abbrev s_value_right : Stmt := topS 29
abbrev N_value_right : List Str := ["_law_thing", "_law_shown"]
theorem sc_value_right : FnScope N_value_right ["_law_thing"] (defScope s_value_right) := ⟨rfl, rfl, rfl, by decide +kernel, rfl, by decide +kernel, by decide +kernel⟩
theorem ok_value_right {f : Addr} {fd : FuncData} (F : Fun K "_law_value_right" "_law_value_right" s_value_right f fd) (T : Bt mg) (c_is_judge : Cal P w K mg base 5 "is_judge" (spJdg K) []) (c_law_is_judge : Cal P w K mg base 2 "_law_is_judge" (spJdg K) []) : FnG P w K mg base CX0 6 f fd ["_law_thing"] (spVal K) := by
  refine okG F sc_value_right (fun vs H Q E h => ?_) (fun cdv A outer s H vs Q E hgd hr h => ?_)
  · obtain ⟨p, Z, v, d, rfl, _⟩ := h
    rfl
  · obtain ⟨p, Z, v, d, rfl, hd, hb, q⟩ := h
    refine ⟨_, (pss_cons (ps_set (i := 1) sc_value_right.nd rfl (Or.inl rfl) (pe_callB (call_reprQ K hgd hr) (by rfl) T.repr (by decide +kernel) (pa_cons (pv 0) pa_nil)))
(pss_one (ps_ret (pe_and (pe_cmpR op_eq (pe_callB (call_reprQ K hgd hr) (by rfl) T.repr (by decide +kernel) (pa_cons (pe_c c_is_judge hr (by decide) rfl (pa_cons (pv 0) pa_nil)) pa_nil)) (pe_callB (call_reprQ K hgd hr) (by rfl) T.repr (by decide +kernel) (pa_cons (pe_c c_law_is_judge hr (by decide) rfl (pa_cons (pv 0) pa_nil)) pa_nil)) (nomark _)) (pe_one (pe_cmpR op_eq (pe_callB (call_reprQ K hgd hr) (by rfl) T.repr (by decide +kernel) (pa_cons (pv 0) pa_nil)) (pv 1) (nomark _))))))), ?_⟩
    have rp := hb.repr (by decide) (by decide) (by decide)
    have hz : szD d ≤ 1000000 := Nat.le_trans hb.sz (by decide)
    have bp : (PyData.bool (isJdg d)).showable = true ∧ (PyData.bool (isJdg d)).depth ≤ 64 ∧ szD (PyData.bool (isJdg d)) ≤ sizeLine := ⟨by simp [PyData.showable], by simp [PyData.depth], by simp only [szD]; decide⟩
    refine ⟨_, rfl, p, Z, v, d, rfl, hd, rp.1, rp.2.1, rp.2.2, ?_⟩
    refine ⟨_, rfl, p, Z, v, d, rfl, hd, hz, fun H1 S1 => ⟨p, Z, _, _, rfl, .bl _, bp.1, bp.2.1, bp.2.2, ?_⟩⟩
    refine ⟨_, rfl, p, Z, v, d, rfl, hd.same S1, hz, fun H2 S2 => ⟨p, Z, _, _, rfl, .bl _, bp.1, bp.2.1, bp.2.2, rfl, _, rfl, ?_⟩⟩
    rw [show decide (V.str (PyData.bool (isJdg d)).shown = V.str (PyData.bool (isJdg d)).shown) = true from decide_eq_true rfl]
    refine iteT ⟨_, rfl, p, Z, v, d, rfl, hd.same (S1.trans S2), rp.1, rp.2.1, rp.2.2, _, rfl, rfl, ?_⟩
    rw [show decide (V.str d.shown = V.str d.shown) = true from decide_eq_true rfl]
    exact q H2 (S1.trans S2)
end
end LA

namespace LA
open PySem L2
open C8 (Cal pe_c)
section
variable {P : Program} {w : World} {K : PySem.W.Frag} {mg : Str → Option Value} {base : Heap}
abbrev s_right : Stmt := topS 30
abbrev N_right : List Str := ["_law_pot_here", "_law_turn", "_law_judge_here", "_law_values", "_law_again", "_law_bent_here", "_law_thing", "_law_wide", "_law_many", "_law_count"]
theorem sc_right : FnScope N_right ["_law_pot_here"] (defScope s_right) := ⟨rfl, rfl, rfl, by decide +kernel, rfl, by decide +kernel, by decide +kernel⟩
theorem ok_right {f : Addr} {fd : FuncData} (F : Fun K "_law_right" "_law_right" s_right f fd) (T : Bt mg) (c_one_of : Cal P w K mg base 4 "_law_one_of" (spOneOf K) []) (c_odd : Cal P w K mg base 3 "_law_odd" (spOdd K) [])
    (c_bent : Cal P w K mg base 29 "_law_bent" (spBent K 25) []) (c_input_count : Cal P w K mg base 1 "input_count" (spInC K) []) (c_output_count : Cal P w K mg base 1 "output_count" (spOutC K) []) (c_value_right : CalG P w K mg base 6 "_law_value_right" (spVal K)) : FnG P w K mg base CX0 30 f fd ["_law_pot_here"] spRight := by
  refine okG F sc_right (fun vs H Q E h => ?_) (fun cdv A outer s H vs Q E hgd hr h => ?_)
  · obtain ⟨p, rfl, _⟩ := h
    rfl
  · obtain ⟨p, rfl, hP, k⟩ := h
    refine ⟨_, (pss_cons (ps_for PassesOwn.never rfl (pi_range1 (by rfl) T.range (pa_cons pe_int pa_nil)) (pg_name (i := 1) sc_right.nd rfl (Or.inl rfl))
(pss_cons (ps_set (i := 2) sc_right.nd rfl (Or.inl rfl) (pe_c c_one_of hr (by decide) rfl (pa_cons (pv 0) pa_nil)))
(pss_cons (ps_set (i := 3) sc_right.nd rfl (Or.inl rfl) (pe_lst (pa_cons (pv 2) (pa_cons (pe_callTy (lstK K) (by rfl) T.list (by decide +kernel) (pa_cons (pv 2) pa_nil)) (pa_cons (pe_op (catK K) (pv 2) (pe_slice (slTK K) (pv 2) po_none (po_some pe_int))) (pa_cons (pe_slice (slTK K) (pv 2) po_none (po_some pe_int)) (pa_cons (pe_tup (pa_cons (pv 2) pa_nil)) pa_nil)))))))
(pss_cons (ps_for PassesOwn.never rfl (pi_range1 (by rfl) T.range (pa_cons pe_int pa_nil)) (pg_name (i := 4) sc_right.nd rfl (Or.inl rfl))
(pss_cons (ps_set (i := 5) sc_right.nd rfl (Or.inl rfl) (pe_c c_bent hr (by decide) rfl (pa_cons (pv 0) (pa_cons (pv 2) pa_nil))))
(pss_one (ps_expr (pe_bm PySem.F.plainAttrs_list PySem.F.slot_list_append PySem.F.type_list_append mt_append (pv 3) (pa_cons (pe_ifExp (pt_cmpR op_eq (pe_op op_mod (pv 4) pe_int) pe_int (nomark _)) (pe_c c_bent hr (by decide) rfl (pa_cons (pv 0) (pa_cons (pv 5) pa_nil))) (pv 5)) pa_nil))))))
(pss_cons (ps_set (i := 3) sc_right.nd rfl (Or.inl rfl) (pe_op op_cat (pv 3) (pe_lc (own := [("_law_again", 4)]) (g := (gName 4)) (tt := tYes) rfl sc_right.nd (pi_range1 (by rfl) T.range (pa_cons pe_int pa_nil)) (blkOk_by (N := N_right) (sc := defScope s_right) (by decide +kernel)) (fun _ _ _ _ _ => (pg_name (i := 4) sc_right.nd rfl (Or.inl rfl))) (fun _ _ _ _ _ => pts_nil) (fun _ _ _ _ _ => (pe_c c_odd hr (by decide) rfl (pa_cons (pv 0) pa_nil))))))
(pss_cons (ps_if (pt_not (pt_val (pe_callB (cr_all rfl) (by rfl) T.all (by decide +kernel) (pa_cons (pe_lc (own := [("_law_thing", 6)]) (g := (gName 6)) (tt := tYes) rfl sc_right.nd (piLK K (pv 3)) (blkOk_by (N := N_right) (sc := defScope s_right) (by decide +kernel)) (fun _ _ _ _ _ => (pg_name (i := 6) sc_right.nd rfl (Or.inl rfl))) (fun _ _ _ _ _ => pts_nil) (fun _ _ _ _ _ => (pe_cG c_value_right hgd hr (by decide) rfl (pa_cons (pv 6) pa_nil)))) pa_nil))))
(pss_one (ps_ret pe_bl))
pss_nil)
(pss_one (ps_if (pt_cmpR op_ne (pe_callB (call_reprQ K hgd hr) (by rfl) T.repr (by decide +kernel) (pa_cons (pe_lst (pa_cons (pe_c c_input_count hr (by decide) rfl (pa_cons (pv 2) pa_nil)) (pa_cons (pe_c c_output_count hr (by decide) rfl (pa_cons (pv 2) pa_nil)) pa_nil))) pa_nil)) (pe_callB (call_reprQ K hgd hr) (by rfl) T.repr (by decide +kernel) (pa_cons (pe_lst (pa_cons (pe_callB (lenK K) (by rfl) T.len PySem.boot_len (pa_cons (pe_ix (ixTK K) (pv 2) pe_int (fun _ _ => rfl)) pa_nil)) (pa_cons (pe_callB (lenK K) (by rfl) T.len PySem.boot_len (pa_cons (pe_ix (ixTK K) (pe_ix (ixTK K) (pv 2) pe_int (fun _ _ => rfl)) pe_int (fun _ _ => rfl)) pa_nil)) pa_nil))) pa_nil)) (nomark _))
(pss_one (ps_ret pe_bl))
pss_nil))))))))
(pss_cons (ps_setLc (i := 7) (own := [("_law_many", 8), ("_law_count", 9)]) (g := (gTup K 2 (gCons (gName 8) (gCons (gName 9) gNil)))) (tt := tYes) rfl sc_right.nd rfl rfl (sw_true rfl rfl rfl (by decide +kernel)) (piTK K (pe_tup (pa_cons (pe_tup (pa_cons pe_int (pa_cons pe_int pa_nil))) (pa_cons (pe_tup (pa_cons pe_int (pa_cons pe_int pa_nil))) (pa_cons (pe_tup (pa_cons pe_int (pa_cons pe_int pa_nil))) (pa_cons (pe_tup (pa_cons pe_int (pa_cons pe_int pa_nil))) (pa_cons (pe_tup (pa_cons pe_int (pa_cons pe_int pa_nil))) pa_nil))))))) (blkOk_by (N := N_right) (sc := defScope s_right) (by decide +kernel)) (fun _ _ _ _ _ => (pg_tup rfl (pgs_cons (pg_name (i := 8) sc_right.nd rfl (Or.inl rfl)) (pgs_cons (pg_name (i := 9) sc_right.nd rfl (Or.inl rfl)) pgs_nil)))) (fun _ _ _ _ _ => pts_nil) (fun _ _ _ _ _ => (pe_op (repAK K) (pe_tup (pa_cons (pe_op (repAK K) (pe_tup (pa_cons (pe_op (repAK K) (pe_tup (pa_cons pe_int pa_nil)) (pv 8)) pa_nil)) (pv 8)) pa_nil)) (pv 9))))
(pss_one (ps_ret (pe_callB (cr_all rfl) (by rfl) T.all (by decide +kernel) (pa_cons (pe_lc (own := [("_law_thing", 6)]) (g := (gName 6)) (tt := tYes) rfl sc_right.nd (piLK K (pe_op op_cat (pv 7) (pe_lst (pa_cons (pe_tup (pa_cons (pe_tup (pa_cons (pe_tup (pa_cons pe_non pa_nil)) pa_nil)) pa_nil)) (pa_cons (pe_tup (pa_cons (pe_tup (pa_cons (pe_tup pa_nil) pa_nil)) pa_nil)) (pa_cons (pe_tup (pa_cons (pe_tup pa_nil) pa_nil)) (pa_cons (pe_tup (pa_cons (pe_tup (pa_cons (pe_tup (pa_cons pe_int pa_nil)) pa_nil)) (pa_cons (pe_tup (pa_cons (pe_tup (pa_cons pe_int (pa_cons pe_int pa_nil))) pa_nil)) pa_nil))) pa_nil))))))) (blkOk_by (N := N_right) (sc := defScope s_right) (by decide +kernel)) (fun _ _ _ _ _ => (pg_name (i := 6) sc_right.nd rfl (Or.inl rfl))) (fun _ _ _ _ _ => pts_nil) (fun _ _ _ _ _ => (pe_cG c_value_right hgd hr (by decide) rfl (pa_cons (pv 6) pa_nil)))) pa_nil)))))), ?_⟩
    refine ⟨_, rfl, by decide, by decide, for_range (lo := 0) (fun i σ H' => ∃ (v1 v2 v3 v4 v5 : Option V), σ = [some (.ref p), v1, v2, v3, v4, v5, none, none, none, none] ∧ SameX p H H' ∧ PotAt H' p (4000 * i))
      ⟨_, _, _, _, _, rfl, SameX.refl p H, hP⟩ ?_ ?_⟩
    · rintro i σ H1 hi ⟨v1, v2, v3, v4, v5, rfl, X1, P1⟩
      have hi4 : i < 4 := by have := hi; omega
      refine ⟨_, rfl, p, 4000 * i, rfl, P1, by omega, fun H2 jv j nx ny s2 P2 hJ ij => ?_⟩
      obtain ⟨a, b, c, us, ws, r, rfl, g1, g2, g3, g4, g5, g6, g7⟩ := hJ.first ij
      have n8 := ij.n8
      have jb : Bd (10 ^ 30) 1600 3 (jD j) := jD_bd ij (by decide)
      obtain ⟨a', us', e', hT, hpj⟩ := id hJ
      cases e'
      have hA : ∀ Z : Addr → Prop, DqAll K p Z H2 us' (j.map sD) := fun Z => paired_dq (fun _ _ x => x.dq) hpj
      have hul := paired_len hpj
      have hbs := jb.untup
      refine ⟨_, rfl, _, rfl, a, us', rfl, .inr hT, fun q1 f1 => ?_⟩
      have T1 := sm (o := .lst us') f1
      have nq1 := P2.ne f1
      have hT1 := (Same.t T1).seq hT
      refine ⟨_, rfl, _, rfl, ?_⟩
      unfold tNoPart
      refine ⟨_, rfl, slOne (K := K) hT1 fun H3 q2 T2 h2 => ?_⟩
      have hT2 := (Same.t T2).seq hT1
      have hcl : (cutV us' none (some 1)).length ≤ us'.length := by unfold cutV; rw [List.length_take, List.length_drop]; omega
      refine catOne (K := K) hT2 h2 (szl (by omega)) fun H4 q3 T3 h3 => ?_
      have hT3 := (Same.t T3).seq hT2
      refine ⟨_, rfl, _, rfl, slOne (K := K) hT3 fun H5 q4 T4 h4 => ?_⟩
      refine ⟨_, rfl, szl (by simp), fun q5 f5 => ?_⟩
      have T5 := sm (o := .tup [V.ref a]) f5
      refine ⟨szl (by simp), fun lv hlv => ?_⟩
      have TL := sm (o := .lst [V.ref a, V.ref q1, V.ref q3, V.ref q4, V.ref q5]) hlv
      have c4 := T4.trans T5
      have c3 := T3.trans c4
      have c1 := (T1.trans T2).trans c3
      have P5 : PotAt _ p (4000 * i + 400) := P2.same c1
      have hlv0 : H lv = none := SameX.free ((X1.trans s2).trans (Same.x c1)) P5 hlv
      have nq1l : q1 ≠ lv := ne_of_none ((T2.trans c3) q1 _ upd_same) hlv
      obtain ⟨e2, d2, b2⟩ := cut_dq ((hA (· = lv)).same ((T1.trans T2).trans T3)) none (some 1)
      obtain ⟨e4, d4, b4⟩ := cut_dq ((hA (· = lv)).same ((T1.trans T2).trans (T3.trans T4))) none (some 1)
      have D5 : DqAll K p (· = lv) _ [V.ref a, V.ref q1, V.ref q3, V.ref q4, V.ref q5] [jD j, .list (j.map sD), .tuple (j.map sD ++ e2), .tuple e4, .tuple [jD j]] :=
        .cons (JAt.dq (hJ.t (Same.t c1))) (.cons (Dq.same (.lst ⟨nq1, nq1l⟩ (SqL.of upd_same) ((hA _).same T1)) (T2.trans c3)) (.cons (Dq.same (.tup h3 (((hA _).same ((T1.trans T2).trans T3)).app d2)) c4) (.cons (Dq.same (.tup h4 d4) T5)
          (.cons (.tup (SqT.of upd_same) (.cons (JAt.dq (hJ.t (Same.t c1))) .nil)) .nil))))
      have B5 : ∀ d ∈ [jD j, .list (j.map sD), .tuple (j.map sD ++ e2), .tuple e4, .tuple [jD j]], Bd (10 ^ 30 + 3) 20000 64 d := by
        intro d hd
        simp only [List.mem_cons, List.not_mem_nil, or_false] at hd
        rcases hd with rfl | rfl | rfl | rfl | rfl
        · exact jb.mono (by decide) (by decide) (by decide)
        · exact (Bd.lst hbs.1).mono (by decide) (by decide) (by decide)
        · exact (Bd.tup (hbs.1.app (b2 _ _ _ hbs.1))).mono (by decide) (by decide) (by decide)
        · exact (Bd.tup (b4 _ _ _ hbs.1)).mono (by decide) (by decide) (by decide)
        · exact (Bd.tup (Bds.cons jb (Bds.nil (s := 0)))).mono (by decide) (by decide) (by decide)
      have V5 : VL K p (· = lv) (10 ^ 30 + 3) 20000 64 _ lv _ _ := VL.new P5 hlv D5 B5
      have P6 := P5.same TL
      have X6 := (X1.trans s2).trans (Same.x (c1.trans TL))
      have J6 := hJ.t (Same.t (c1.trans TL))
      -- bent ones
      refine ⟨_, rfl, by decide, by decide, for_range (lo := 0) (fun e σ H' => ∃ (v4 v5 : Option V) (vs : List V) (ds : List PyData), σ = [some (.ref p), some (.int (0 + (i : Int))), some (.ref a), some (.ref lv), v4, v5, none, none, none, none] ∧ SameX p H H' ∧ PotAt H' p (4000 * i + 400 + 150 * e) ∧
          VL K p (· = lv) (10 ^ 30 + 3) 20000 64 H' lv vs ds ∧ vs.length ≤ 5 + e ∧ JAt K H' (.ref a) j)
        ⟨_, _, _, _, rfl, X6, P6, V5, by simp, J6⟩ ?_ ?_⟩
      · rintro e σ H6 he ⟨v4, v5, vs, ds, rfl, X6, P6, V6, hl6, J6⟩
        have he14 : e < 14 := by have := he; omega
        refine ⟨_, rfl, _, rfl, p, (· = lv), .ref a, jD j, _, 10 ^ 30, 1600, 3, rfl, P6, V6.trk, by show _ + 2 * 24 < 800000; omega, J6.dq, Nat.le_refl _, by decide, by decide, jb, by decide, fun H7 v7 d7 s7 P7 q7 b7 => ?_⟩
        have V7 := V6.x P6 s7
        have J7 := J6.t (P6.t s7)
        refine ⟨_, rfl, .inl ⟨rfl, _, SqL.of V7.at'⟩, _, rfl, _, _, rfl, rfl, (by show (0 : Int) < 3; decide), rfl, _, rfl, ?_⟩
        refine ite2 (fun hm => ?_) (fun hm => ?_)
        · refine ⟨_, rfl, _, rfl, p, (· = lv), v7, d7, _, 10 ^ 30 + 1, 6200, 23, rfl, P7, V7.trk, by show _ + 2 * 24 + 22 + 2 * 24 < 800000; omega, q7, by decide, by decide, by decide, b7, by decide, fun H8 v8 d8 s8 P8 q8 b8 => ?_⟩
          have V8 := V7.x P7 s8
          refine ⟨lv, _, _, rfl, rfl, V8.at', szl1 (by omega), ?_⟩
          have V9 := V8.push q8 (b8.mono (by decide) (by decide) (by decide))
          have J8 := J7.t (P7.t s8)
          refine ⟨_, _, _, _, rfl, ((X6.trans s7).trans s8).own hlv0, ((P8.new V8.ne).mono (by show _ + 2 * 24 + 22 + 2 * 24 + 22 ≤ _; omega)), V9, by simp; omega, J8.t (SameT.lst V8.at')⟩
        · refine ⟨_, rfl, lv, _, _, rfl, rfl, V7.at', szl1 (by omega), ?_⟩
          have V9 := V7.push q7 (b7.mono (by decide) (by decide) (by decide))
          refine ⟨_, _, _, _, rfl, (X6.trans s7).own hlv0, ((P7.new V7.ne).mono (by show _ + 2 * 24 + 22 ≤ _; omega)), V9, by simp; omega, J7.t (SameT.lst V7.at')⟩
      · rintro σ H6 ⟨v4, v5, vs, ds, rfl, X6, P6, V6, hl6, J6⟩
        have e14 : (14 : Int).toNat = 14 := rfl
        rw [e14] at P6 hl6
        refine ⟨_, rfl, _, rfl, by decide, by decide, fun D hD => ?_⟩
        have nD' := P6.ne hD
        refine lc_range (lo := 0) (fun t H' => ∃ (us : List V) (es : List PyData), VL K p (· = D) (10 ^ 30 + 3) 20000 64 H' D us es ∧ us.length = t ∧ SameX p H6 H' ∧ PotAt H' p (4000 * i + 2500 + 20 * t))
          ⟨[], [], VL.new P6 hD .nil nofun, rfl, Same.x (sm hD), P6.same (sm hD)⟩ ?_ ?_
        · rintro t H7 ht ⟨us2, es, V7, hu, X7, P7⟩
          have ht6 : t < 6 := by have := ht; omega
          refine ⟨rfl, tyes ?_⟩
          refine ⟨_, rfl, p, (· = D), _, rfl, P7, V7.trk, by omega, fun H8 v8 d8 s8 P8 hq8 hb8 => ?_⟩
          have V8 := V7.x P7 s8
          have V9 := V8.push hq8 (hb8.mono (by decide) (by decide) (by decide))
          exact ⟨us2, V8.at', szl1 (by omega), us2 ++ [v8], es ++ [d8], V9, by simp [hu], (X7.trans s8).own hD, P8.new nD'⟩
        · rintro H7 ⟨us2, es, V7, hu, X7, P7⟩
          have e6 : (6 : Int).toNat = 6 := rfl
          rw [e6] at hu P7
          refine VL.cat ((V6.weak (Z' := noZ) (fun _ z => z.elim)).x P6 X7) P7 V7.at' (DqAll.weak (fun _ z => z.elim) _ _ V7.dq) V7.bd (by omega) fun q H8 T8 V8 => ?_
          have XY := X7.trans (Same.x (p := p) T8)
          have P8 := P7.same T8
          have J8 := J6.t (P6.t XY)
          -- all values
          refine ⟨_, rfl, q, rfl, ⟨_, SqL.of V8.at'⟩, fun D2 hD2 => ?_⟩
          refine lc_list (K := K) (a := q) (xs := vs ++ us2) (fun t H' => H' D2 = some (.lst ((List.replicate t true).map V.bl)) ∧ Same H8 H') ⟨upd_same, sm hD2⟩ (fun t H' _ ⟨_, z⟩ => SqL.of (z _ _ V8.at')) ?_ ?_
          · rintro t x H9 hx ⟨h9, S9⟩
            obtain ⟨d, e1, hd, hb⟩ := (V8.s S9).get hx
            have ht : t < 1000 := by
              have := (List.getElem?_eq_some_iff.mp hx).1
              rw [List.length_append] at this
              omega
            refine ⟨rfl, tyes ?_⟩
            refine ⟨_, rfl, p, noZ, x, d, rfl, hd, hb.mono (by decide) (by decide) (by decide), fun H10 S10 => ⟨_, S10 _ _ h9, szl1 (by simp; omega), ?_, (S9.trans S10).own hD2⟩⟩
            rw [upd_same, List.replicate_succ']; simp
          · rintro H9 ⟨h9, S9⟩
            refine ⟨D2, _, rfl, SqL.of h9, _, rfl, ?_⟩
            rw [show ∀ m : Nat, (List.replicate m true).all id = true from fun m => by simp]
            refine iteF ?_
            have J9 := J8.t (Same.t S9)
            have P9 := P8.same S9
            refine ⟨_, rfl, _, j, nx, ny, rfl, J9, ij, _, rfl, _, j, nx, ny, rfl, J9, ij, szl (by simp), fun l1 hl1 => ?_⟩
            have TA := sm (o := .lst [V.int (nx : Int), V.int (ny : Int)]) hl1
            have nl1 := P9.ne hl1
            have tb : Bd (10 ^ 30) 100 1 (.list [.int (nx : Int), .int (ny : Int)]) := by
              have x4 := ij.x4
              have y4 := ij.y4
              exact (Bd.lst (Bds.cons (int_bd (N := 10 ^ 30) (nx : Int) (by omega) (by decide)) (Bds.cons (int_bd (N := 10 ^ 30) (ny : Int) (by omega) (by decide)) (Bds.nil (s := 0))))).mono (Nat.le_refl _) (by decide) (by decide)
            have tp := tb.repr (by decide) (by decide) (by decide)
            refine ⟨p, noZ, .ref l1, _, rfl, .lst ⟨nl1, id⟩ (SqL.of upd_same) (.cons (.int _) (.cons (.int _) .nil)), tp.1, tp.2.1, tp.2.2, ?_⟩
            have PA := P9.same TA
            obtain ⟨a2, b2', c2, us3, ws3, r3, e3, k1, k2, k3, k4, k5, k6, k7⟩ := (J9.t (Same.t TA)).first ij
            cases e3
            refine ⟨_, rfl, a, us3, _, .ref b2', rfl, rfl, k1, atI_nat (j := 0) k2, b2', ws3, rfl, .inr k3, ?_⟩
            refine ⟨_, rfl, a, us3, _, .ref b2', rfl, rfl, k1, atI_nat (j := 0) k2, b2', ws3, _, .ref c2, rfl, rfl, k3, atI_nat (j := 0) k5, c2, _, rfl, .inr k6, ?_⟩
            rw [k4, List.length_map, k7]
            refine ⟨szl (by simp), fun l2 hl2 => ?_⟩
            have TB := sm (o := .lst [V.int (nx : Int), V.int (ny : Int)]) hl2
            refine ⟨p, noZ, .ref l2, _, rfl, .lst ⟨PA.ne hl2, id⟩ (SqL.of upd_same) (.cons (.int _) (.cons (.int _) .nil)), tp.1, tp.2.1, tp.2.2, rfl, _, rfl, ?_⟩
            refine ite2 (fun z => ?_) (fun _ => ?_)
            · rw [decide_eq_true rfl] at z; cases z
            · refine ⟨_, _, _, _, _, rfl, ((X6.trans XY).trans (Same.x S9)).trans (Same.x (TA.trans TB)), (PA.same TB).mono (by omega)⟩
    · rintro σ H1 ⟨v1, v2, v3, v4, v5, rfl, X1, P1⟩
      refine ⟨szl (by simp), fun t1 f1 => ⟨szl (by simp), fun t2 f2 => ⟨szl (by simp), fun t3 f3 => ⟨szl (by simp), fun t4 f4 => ⟨szl (by simp), fun t5 f5 => ⟨szl (by simp), fun tt ftt => ?_⟩⟩⟩⟩⟩⟩
      have U1 := sm (o := .tup [V.int 4, V.int 8]) f1
      have U2 := sm (o := .tup [V.int 5, V.int 8]) f2
      have U3 := sm (o := .tup [V.int 4, V.int 9]) f3
      have U4 := sm (o := .tup [V.int 1, V.int 1]) f4
      have U5 := sm (o := .tup [V.int 5, V.int 1]) f5
      have UT := sm (o := .tup [V.ref t1, V.ref t2, V.ref t3, V.ref t4, V.ref t5]) ftt
      refine ⟨tt, rfl, ⟨_, SqT.of upd_same⟩, fun D hD => ?_⟩
      have UU := (((U1.trans U2).trans (U3.trans U4)).trans U5).trans UT
      have PT := P1.same UU
      have prs : Paired (fun (v : V) (mc : Nat × Nat) => ∃ ta, v = .ref ta ∧ SqT K _ ta [V.int (mc.1 : Int), V.int (mc.2 : Int)] ∧ 1 ≤ mc.1 ∧ mc.1 ≤ 5 ∧ 1 ≤ mc.2 ∧ mc.2 ≤ 9) [V.ref t1, V.ref t2, V.ref t3, V.ref t4, V.ref t5] [(4, 8), (5, 8), (4, 9), (1, 1), (5, 1)] :=
        .cons ⟨t1, rfl, (Same.t ((U2.trans (U3.trans U4)).trans (U5.trans UT))).seq (SqT.of upd_same), by decide, by decide, by decide, by decide⟩ (.cons ⟨t2, rfl, (Same.t ((U3.trans U4).trans (U5.trans UT))).seq (SqT.of upd_same), by decide, by decide, by decide, by decide⟩
          (.cons ⟨t3, rfl, (Same.t (U4.trans (U5.trans UT))).seq (SqT.of upd_same), by decide, by decide, by decide, by decide⟩ (.cons ⟨t4, rfl, (Same.t (U5.trans UT)).seq (SqT.of upd_same), by decide, by decide, by decide, by decide⟩
          (.cons ⟨t5, rfl, (Same.t UT).seq (SqT.of upd_same), by decide, by decide, by decide, by decide⟩ .nil))))
      refine lc_tup (K := K) (a := tt) (xs := [V.ref t1, V.ref t2, V.ref t3, V.ref t4, V.ref t5]) (fun t H' => ∃ (us : List V) (es : List PyData), VL K p (· = D) (10 ^ 30 + 3) 20000 64 H' D us es ∧ us.length = t ∧ Same _ H')
        ⟨[], [], VL.new PT hD .nil nofun, rfl, sm hD⟩ (fun t H' _ ⟨_, _, _, _, z⟩ => (Same.t z).seq (SqT.of upd_same)) ?_ ?_
      · rintro t x H2 hx ⟨us, es, V2, hu, S2⟩
        obtain ⟨⟨m, cn⟩, _, ta, rfl, hta, m1, m5, c1, c9⟩ := paired_at prs hx
        simp only at hta m1 m5 c1 c9
        have ht5 : t < 5 := by have := (List.getElem?_eq_some_iff.mp hx).1; simpa using this
        refine ⟨ta, _, rfl, (Same.t S2).seq hta, rfl, ?_⟩
        refine ⟨_, _, rfl, _, _, rfl, rfl, rfl, tyes ?_⟩
        refine ⟨szl (by simp), fun q1 g1 => ?_⟩
        have W1 := sm (o := .tup [V.int 0]) g1
        refine ⟨_, rfl, q1, m, _, rfl, rfl, SqT.of upd_same, by simp, by omega, by omega, by simp, fun G1 r1 Y1 h1 => ?_⟩
        rw [flat_rep] at h1
        refine ⟨szl (by simp), fun q2 g2 => ?_⟩
        have W2 := sm (o := .tup [V.ref r1]) g2
        refine ⟨_, rfl, q2, m, _, rfl, rfl, SqT.of upd_same, by simp, by omega, by omega, by simp, fun G2 r2 Y2 h2 => ?_⟩
        rw [flat_rep] at h2
        refine ⟨szl (by simp), fun q3 g3 => ?_⟩
        have W3 := sm (o := .tup [V.ref r2]) g3
        refine ⟨_, rfl, q3, cn, _, rfl, rfl, SqT.of upd_same, by simp, by omega, by omega, by simp, fun G3 r3 Y3 h3 => ?_⟩
        rw [flat_rep] at h3
        have z0 : Bd (10 ^ 30 + 3) 8 0 (.int 0) := int_bd 0 (by decide) (by decide)
        have k1 : Dq K p (· = D) G1 (.ref r1) (.tuple (List.replicate (m : Int).toNat (.int 0))) := .tup h1 (rep_dq (.int 0) _)
        have k2 : Dq K p (· = D) G2 (.ref r2) (.tuple (List.replicate (m : Int).toNat (.tuple (List.replicate (m : Int).toNat (.int 0))))) := .tup h2 (rep_dq ((k1.same W2).same Y2) _)
        have k3 : Dq K p (· = D) G3 (.ref r3) (.tuple (List.replicate (cn : Int).toNat (.tuple (List.replicate (m : Int).toNat (.tuple (List.replicate (m : Int).toNat (.int 0))))))) := .tup h3 (rep_dq ((k2.same W3).same Y3) _)
        have hm5 : (m : Int).toNat ≤ 5 := by omega
        have hc9 : (cn : Int).toNat ≤ 9 := by omega
        have b1 : Bd (10 ^ 30 + 3) 60 1 (.tuple (List.replicate (m : Int).toNat (.int 0))) := (Bd.tup (rep_bd z0 _)).mono (Nat.le_refl _) (by omega) (by decide)
        have b2 : Bd (10 ^ 30 + 3) 400 2 (.tuple (List.replicate (m : Int).toNat (.tuple (List.replicate (m : Int).toNat (.int 0))))) := (Bd.tup (rep_bd b1 _)).mono (Nat.le_refl _) (by omega) (by decide)
        have b3 : Bd (10 ^ 30 + 3) 20000 64 (.tuple (List.replicate (cn : Int).toNat (.tuple (List.replicate (m : Int).toNat (.tuple (List.replicate (m : Int).toNat (.int 0))))))) := (Bd.tup (rep_bd b2 _)).mono (Nat.le_refl _) (by omega) (by decide)
        have SS := ((W1.trans Y1).trans (W2.trans Y2)).trans (W3.trans Y3)
        have V3 := V2.s SS
        exact ⟨us, V3.at', szl1 (by omega), us ++ [V.ref r3], es ++ [_], V3.push k3 b3, by simp [hu], (S2.trans SS).own hD⟩
      · rintro H2 ⟨us, es, V2, hu, S2⟩
        have hu5 : us.length = 5 := hu
        have P2 := PT.same S2
        have V2' : VL K p noZ _ _ _ _ _ _ _ := V2.weak (Z' := noZ) (fun _ z => z.elim)
        refine ⟨_, rfl, ?_⟩
        refine ⟨szl (by simp), fun w1 g0 => ?_⟩
        have A0 := sm (o := .tup [V.non]) g0
        refine ⟨szl (by simp), fun w2 g1 => ?_⟩
        have A1 := sm (o := .tup [V.ref w1]) g1
        refine ⟨szl (by simp), fun w3 g2 => ?_⟩
        have A2 := sm (o := .tup [V.ref w2]) g2
        refine ⟨szl (by simp), fun x1 g3 => ?_⟩
        have A3 := sm (o := .tup []) g3
        refine ⟨szl (by simp), fun x2 g4 => ?_⟩
        have A4 := sm (o := .tup [V.ref x1]) g4
        refine ⟨szl (by simp), fun x3 g5 => ?_⟩
        have A5 := sm (o := .tup [V.ref x2]) g5
        refine ⟨szl (by simp), fun y1 g6 => ?_⟩
        have A6 := sm (o := .tup []) g6
        refine ⟨szl (by simp), fun y2 g7 => ?_⟩
        have A7 := sm (o := .tup [V.ref y1]) g7
        refine ⟨szl (by simp), fun z1 g8 => ?_⟩
        have A8 := sm (o := .tup [V.int 0]) g8
        refine ⟨szl (by simp), fun z2 g9 => ?_⟩
        have A9 := sm (o := .tup [V.ref z1]) g9
        refine ⟨szl (by simp), fun z3 g10 => ?_⟩
        have A10 := sm (o := .tup [V.int 0, V.int 0]) g10
        refine ⟨szl (by simp), fun z4 g11 => ?_⟩
        have A11 := sm (o := .tup [V.ref z3]) g11
        refine ⟨szl (by simp), fun z5 g12 => ?_⟩
        have A12 := sm (o := .tup [V.ref z2, V.ref z4]) g12
        have F11 := A12
        have F10 := A11.trans F11
        have F9 := A10.trans F10
        have F8 := A9.trans F9
        have F7 := A8.trans F8
        have F6 := A7.trans F7
        have F5 := A6.trans F6
        have F4 := A5.trans F5
        have F3 := A4.trans F4
        have F2 := A3.trans F3
        have F1 := A2.trans F2
        have F0 := A1.trans F1
        have PZ := P2.same (A0.trans F0)
        refine ⟨szl (by simp), fun l2 hl2 => ?_⟩
        have AL := sm (o := .lst [V.ref w3, V.ref x3, V.ref y2, V.ref z5]) hl2
        have kw1 := tnew (K := K) (p := p) (Z := noZ) g0 (.cons .non .nil)
        have kw2 := tnew g1 (.cons kw1 .nil)
        have kw3 := tnew g2 (.cons kw2 .nil)
        have kx1 := tnew (K := K) (p := p) (Z := noZ) g3 .nil
        have kx2 := tnew g4 (.cons kx1 .nil)
        have kx3 := tnew g5 (.cons kx2 .nil)
        have ky1 := tnew (K := K) (p := p) (Z := noZ) g6 .nil
        have ky2 := tnew g7 (.cons ky1 .nil)
        have kz1 := tnew (K := K) (p := p) (Z := noZ) g8 (.cons (.int 0) .nil)
        have kz2 := tnew g9 (.cons kz1 .nil)
        have kz3 := tnew (K := K) (p := p) (Z := noZ) g10 (.cons (.int 0) (.cons (.int 0) .nil))
        have kz4 := tnew g11 (.cons kz3 .nil)
        have kz5 := tnew g12 (.cons (kz2.same (A10.trans A11)) (.cons kz4 .nil))
        have DL : DqAll K p noZ _ [V.ref w3, V.ref x3, V.ref y2, V.ref z5] [.tuple [.tuple [.tuple [.none]]], .tuple [.tuple [.tuple []]], .tuple [.tuple []], .tuple [.tuple [.tuple [.int 0]], .tuple [.tuple [.int 0, .int 0]]]] := .cons ((kw3.same F2).same AL) (.cons ((kx3.same F5).same AL) (.cons ((ky2.same F7).same AL) (.cons (kz5.same AL) .nil)))
        have z0 : Bd (10 ^ 30 + 3) 8 0 (.int 0) := int_bd 0 (by decide) (by decide)
        have zn : Bd (10 ^ 30 + 3) 8 0 .none := ⟨by simp [IB], by simp [szD], by simp [PyData.depth]⟩
        have o1 : ∀ {d : PyData} {s e : Nat}, Bd (10 ^ 30 + 3) s e d → Bd (10 ^ 30 + 3) (s + 5) (e + 1) (.tuple [d]) := fun h => (Bd.tup (Bds.cons h (Bds.nil (s := 0)))).mono (Nat.le_refl _) (by omega) (Nat.le_refl _)
        have e0 : Bd (10 ^ 30 + 3) 3 1 (.tuple []) := (Bd.tup (Bds.nil (s := 0) (e := 0))).mono (Nat.le_refl _) (by decide) (by decide)
        have o2 : Bd (10 ^ 30 + 3) 30 1 (.tuple [.int 0, .int 0]) := (Bd.tup (Bds.cons z0 (Bds.cons z0 (Bds.nil (s := 0))))).mono (Nat.le_refl _) (by decide) (by decide)
        refine VL.cat (V2'.s ((A0.trans F0).trans AL)) (PZ.same AL) upd_same DL ?_ (by simp; omega) fun q H8 T8 V8 => ?_
        · intro d hd
          simp only [List.mem_cons, List.not_mem_nil, or_false] at hd
          rcases hd with rfl | rfl | rfl | rfl
          · exact (o1 (o1 (o1 zn))).mono (Nat.le_refl _) (by decide) (by decide)
          · exact (o1 (o1 e0)).mono (Nat.le_refl _) (by decide) (by decide)
          · exact (o1 e0).mono (Nat.le_refl _) (by decide) (by decide)
          · exact (Bd.tup (Bds.cons ((o1 (o1 z0)).mono (Nat.le_refl _) (show _ ≤ 50 by decide) (Nat.le_refl 2)) (Bds.cons ((o1 o2).mono (Nat.le_refl _) (show _ ≤ 50 by decide) (Nat.le_refl 2)) (Bds.nil (s := 0))))).mono (Nat.le_refl _) (by decide) (by decide)
        · refine ⟨q, rfl, ⟨_, SqL.of V8.at'⟩, fun D2 hD2 => ?_⟩
          refine lc_list (K := K) (a := q) (xs := us ++ [V.ref w3, V.ref x3, V.ref y2, V.ref z5]) (fun t H' => H' D2 = some (.lst ((List.replicate t true).map V.bl)) ∧ Same H8 H') ⟨upd_same, sm hD2⟩ (fun t H' _ ⟨_, z⟩ => SqL.of (z _ _ V8.at')) ?_ ?_
          · rintro t x H9 hx ⟨h9, S9⟩
            obtain ⟨d, e1, hd, hb⟩ := (V8.s S9).get hx
            have ht : t < 1000 := by
              have := (List.getElem?_eq_some_iff.mp hx).1
              rw [List.length_append] at this
              simp at this
              omega
            refine ⟨rfl, tyes ?_⟩
            refine ⟨_, rfl, p, noZ, x, d, rfl, hd, hb.mono (by decide) (by decide) (by decide), fun H10 S10 => ⟨_, S10 _ _ h9, szl1 (by simp; omega), ?_, (S9.trans S10).own hD2⟩⟩
            rw [upd_same, List.replicate_succ']; simp
          · rintro H9 ⟨h9, S9⟩
            refine ⟨D2, _, rfl, SqL.of h9, ?_⟩
            rw [show ∀ m : Nat, (List.replicate m true).all id = true from fun m => by simp]
            exact k H9 (X1.trans (Same.x ((((UU.trans S2).trans ((A0.trans F0).trans AL)).trans T8).trans S9)))
end
end LA

namespace LA
open PySem L2
open C8 (Cal pe_c)
section
variable {P : Program} {w : World} {K : PySem.W.Frag} {mg : Str → Option Value} {base : Heap}
abbrev s_law : Stmt := topS 31
abbrev N_law : List Str := ["_law_script", "_law_k"]
theorem sc_law : FnScope N_law ["_law_script"] (defScope s_law) := ⟨rfl, rfl, rfl, by decide +kernel, rfl, by decide +kernel, by decide +kernel⟩
theorem ok_law {f : Addr} {fd : FuncData} (F : Fun K "law" "law" s_law f fd) (T : Bt mg) (c_pot : Cal P w K mg base 1 "_law_pot" (spPot K) []) (c_right : CalG P w K mg base 30 "_law_right" spRight) : FnG P w K mg base CX0 31 f fd ["_law_script"] (spLaw K) := by
  refine okG F sc_law (fun vs H Q E h => ?_) (fun cdv A outer s H vs Q E hgd hr h => ?_)
  · obtain ⟨a, ns, rfl, _⟩ := h
    rfl
  · obtain ⟨a, ns, rfl, hS, hlen, k⟩ := h
    refine ⟨_, (pss_one (ps_ret (pe_callB (cr_all rfl) (by rfl) T.all (by decide +kernel) (pa_cons (pe_lc (own := [("_law_k", 1)]) (g := (gName 1)) (tt := tYes) rfl sc_law.nd (pi_range1 (by rfl) T.range (pa_cons (pe_callB (call_max2 rfl) (by rfl) T.max (by decide +kernel) (pa_cons pe_int (pa_cons (pe_callB (call_min2 rfl) (by rfl) T.min (by decide +kernel) (pa_cons pe_int (pa_cons (pe_callB (lenK K) (by rfl) T.len PySem.boot_len (pa_cons (pv 0) pa_nil)) pa_nil))) pa_nil))) pa_nil)) (blkOk_by (N := N_law) (sc := defScope s_law) (by decide +kernel)) (fun _ _ _ _ _ => (pg_name (i := 1) sc_law.nd rfl (Or.inl rfl))) (fun _ _ _ _ _ => pts_nil) (fun _ _ _ _ _ => (pe_cG c_right hgd hr (by decide) rfl (pa_cons (pe_c c_pot hr (by decide) rfl (pa_cons (pv 0) (pa_cons (pv 1) pa_nil))) pa_nil)))) pa_nil)))), ?_⟩
    refine ⟨_, rfl, a, _, rfl, .inl hS, _, _, rfl, _, _, rfl, _, rfl, ?_, ?_, fun D hD => ?_⟩
    · split <;> split <;> omega
    · split <;> split <;> omega
    · refine lc_range (lo := 0) (fun i H' => H' D = some (.lst ((List.replicate i true).map V.bl)) ∧ Same H H') ⟨upd_same, (Same.refl H).new hD⟩ ?_ ?_
      · rintro i H1 hi ⟨h1, S1⟩
        have hi3 : i ≤ 62 := by
          have e : ∀ n : Nat, ((if (if ((n : Nat) : Int) < 3 then ((n : Nat) : Int) else 3) > 1 then (if ((n : Nat) : Int) < 3 then ((n : Nat) : Int) else 3) else 1 : Int)).toNat ≤ 3 := by intro n; split <;> split <;> omega
          have := e (ns.map V.int).length
          omega
        refine ⟨rfl, tyes ?_⟩
        refine ⟨_, rfl, _, rfl, a, ns, i, by rw [Int.zero_add]; rfl, S1.seq hS, by omega, fun H2 p S2 hp hP => ?_⟩
        refine ⟨p, rfl, hP, fun H3 X3 => ?_⟩
        have h1' : H3 D = some (.lst ((List.replicate i true).map V.bl)) := X3 D _ (S2 D _ h1) (ne_of_none h1 hp)
        have Sm : Same H1 H3 := fun b o e => X3 b o (S2 b o e) (ne_of_none e hp)
        refine ⟨_, h1', by simp; exact Nat.lt_of_le_of_lt (show i ≤ 1000 by omega) (by decide), ?_, (S1.trans Sm).own hD⟩
        rw [upd_same, List.replicate_succ']; simp
      · rintro H1 ⟨h1, S1⟩
        refine ⟨D, _, rfl, SqL.of h1, ?_⟩
        have e : ∀ n : Nat, ((List.replicate n true).all id) = true := by intro n; simp
        show Q (.bl ((List.replicate _ true).all id)) _
        rw [e]
        exact k _
end
end LA

namespace LA
open PySem L2
theorem all_mk {l : PySem.W.OpenLaw} {w : World} {K : PySem.W.Frag} {h : Heap} {mg : Str → Option Value} {fa f1 f2 f3 f4 f5 f6 f7 f8 f9 f10 f11 f12 f13 f14 f15 f16 f17 f18 f19 f20 f21 f22 f23 f24 f25 f26 f27 f28 : Addr} (X : K.In h) (G : h.Ns mainGlobals mg) (hfa : mg "law" = some (.ref fa))
    {od1 an1 od2 an2 od3 an3 od4 an4 od5 an5 od6 an6 od7 an7 od8 an8 od9 an9 od10 an10 od11 an11 od12 an12 od13 an13 od14 an14 od15 an15 od16 an16 od17 an17 od18 an18 od19 an19 od20 an20 od21 an21 od22 an22 od23 an23 od24 an24 od25 an25 od26 an26 od27 an27 od28 an28 : Option Addr} {sl1 sl2 sl3 sl4 sl5 sl6 sl7 sl8 sl9 sl10 sl11 sl12 sl13 sl14 sl15 sl16 sl17 sl18 sl19 sl20 sl21 sl22 sl23 sl24 sl25 sl26 sl27 sl28 : Array (Option Value)} {oc1 kV1 dc1 pm1 cd1 ct1 oc2 kV2 dc2 pm2 cd2 ct2 oc3 kV3 dc3 pm3 cd3 ct3 oc4 kV4 dc4 pm4 cd4 ct4 oc5 kV5 dc5 pm5 cd5 ct5 oc6 kV6 dc6 pm6 cd6 ct6 oc7 kV7 dc7 pm7 cd7 ct7 oc8 kV8 dc8 pm8 cd8 ct8 oc9 kV9 dc9 pm9 cd9 ct9 oc10 kV10 dc10 pm10 cd10 ct10 oc11 kV11 dc11 pm11 cd11 ct11 oc12 kV12 dc12 pm12 cd12 ct12 oc13 kV13 dc13 pm13 cd13 ct13 oc14 kV14 dc14 pm14 cd14 ct14 oc15 kV15 dc15 pm15 cd15 ct15 oc16 kV16 dc16 pm16 cd16 ct16 oc17 kV17 dc17 pm17 cd17 ct17 oc18 kV18 dc18 pm18 cd18 ct18 oc19 kV19 dc19 pm19 cd19 ct19 oc20 kV20 dc20 pm20 cd20 ct20 oc21 kV21 dc21 pm21 cd21 ct21 oc22 kV22 dc22 pm22 cd22 ct22 oc23 kV23 dc23 pm23 cd23 ct23 oc24 kV24 dc24 pm24 cd24 ct24 oc25 kV25 dc25 pm25 cd25 ct25 oc26 kV26 dc26 pm26 cd26 ct26 oc27 kV27 dc27 pm27 cd27 ct27 oc28 kV28 dc28 pm28 cd28 ct28 : Value}
    (a1 : PySem.W.nsIn K mainGlobals "_law_take" = some (some (.ref f1))) (l1 : K.lookup f1 = some ⟨oc1, od1, .func (PySem.W.fnOf "_law_take" "_law_take" (defArgs s_take) (defBody s_take) (defScope s_take) .none kV1 dc1 pm1 an1 cd1 ct1), sl1⟩) (c1 : PySem.W.codeIn K cd1 "_law_take" = true) (k1 : PySem.W.keepIn K (.ref f1) = true)
    (a2 : PySem.W.nsIn K mainGlobals "_law_pot" = some (some (.ref f2))) (l2 : K.lookup f2 = some ⟨oc2, od2, .func (PySem.W.fnOf "_law_pot" "_law_pot" (defArgs s_pot) (defBody s_pot) (defScope s_pot) .none kV2 dc2 pm2 an2 cd2 ct2), sl2⟩) (c2 : PySem.W.codeIn K cd2 "_law_pot" = true) (k2 : PySem.W.keepIn K (.ref f2) = true)
    (a3 : PySem.W.nsIn K mainGlobals "_law_of" = some (some (.ref f3))) (l3 : K.lookup f3 = some ⟨oc3, od3, .func (PySem.W.fnOf "_law_of" "_law_of" (defArgs s_of) (defBody s_of) (defScope s_of) .none kV3 dc3 pm3 an3 cd3 ct3), sl3⟩) (c3 : PySem.W.codeIn K cd3 "_law_of" = true) (k3 : PySem.W.keepIn K (.ref f3) = true)
    (a4 : PySem.W.nsIn K mainGlobals "_law_mixed" = some (some (.ref f4))) (l4 : K.lookup f4 = some ⟨oc4, od4, .func (PySem.W.fnOf "_law_mixed" "_law_mixed" (defArgs s_mixed) (defBody s_mixed) (defScope s_mixed) .none kV4 dc4 pm4 an4 cd4 ct4), sl4⟩) (c4 : PySem.W.codeIn K cd4 "_law_mixed" = true) (k4 : PySem.W.keepIn K (.ref f4) = true)
    (a5 : PySem.W.nsIn K mainGlobals "_law_judge" = some (some (.ref f5))) (l5 : K.lookup f5 = some ⟨oc5, od5, .func (PySem.W.fnOf "_law_judge" "_law_judge" (defArgs s_judge) (defBody s_judge) (defScope s_judge) .none kV5 dc5 pm5 an5 cd5 ct5), sl5⟩) (c5 : PySem.W.codeIn K cd5 "_law_judge" = true) (k5 : PySem.W.keepIn K (.ref f5) = true)
    (a6 : PySem.W.nsIn K mainGlobals "_law_all_words" = some (some (.ref f6))) (l6 : K.lookup f6 = some ⟨oc6, od6, .func (PySem.W.fnOf "_law_all_words" "_law_all_words" (defArgs s_all_words) (defBody s_all_words) (defScope s_all_words) .none kV6 dc6 pm6 an6 cd6 ct6), sl6⟩) (c6 : PySem.W.codeIn K cd6 "_law_all_words" = true) (k6 : PySem.W.keepIn K (.ref f6) = true)
    (a7 : PySem.W.nsIn K mainGlobals "_law_further" = some (some (.ref f7))) (l7 : K.lookup f7 = some ⟨oc7, od7, .func (PySem.W.fnOf "_law_further" "_law_further" (defArgs s_further) (defBody s_further) (defScope s_further) .none kV7 dc7 pm7 an7 cd7 ct7), sl7⟩) (c7 : PySem.W.codeIn K cd7 "_law_further" = true) (k7 : PySem.W.keepIn K (.ref f7) = true)
    (a8 : PySem.W.nsIn K mainGlobals "_law_parity" = some (some (.ref f8))) (l8 : K.lookup f8 = some ⟨oc8, od8, .func (PySem.W.fnOf "_law_parity" "_law_parity" (defArgs s_parity) (defBody s_parity) (defScope s_parity) .none kV8 dc8 pm8 an8 cd8 ct8), sl8⟩) (c8 : PySem.W.codeIn K cd8 "_law_parity" = true) (k8 : PySem.W.keepIn K (.ref f8) = true)
    (a9 : PySem.W.nsIn K mainGlobals "_law_endless" = some (some (.ref f9))) (l9 : K.lookup f9 = some ⟨oc9, od9, .func (PySem.W.fnOf "_law_endless" "_law_endless" (defArgs s_endless) (defBody s_endless) (defScope s_endless) .none kV9 dc9 pm9 an9 cd9 ct9), sl9⟩) (c9 : PySem.W.codeIn K cd9 "_law_endless" = true) (k9 : PySem.W.keepIn K (.ref f9) = true)
    (a10 : PySem.W.nsIn K mainGlobals "_law_turned" = some (some (.ref f10))) (l10 : K.lookup f10 = some ⟨oc10, od10, .func (PySem.W.fnOf "_law_turned" "_law_turned" (defArgs s_turned) (defBody s_turned) (defScope s_turned) .none kV10 dc10 pm10 an10 cd10 ct10), sl10⟩) (c10 : PySem.W.codeIn K cd10 "_law_turned" = true) (k10 : PySem.W.keepIn K (.ref f10) = true)
    (a11 : PySem.W.nsIn K mainGlobals "_law_known" = some (some (.ref f11))) (l11 : K.lookup f11 = some ⟨oc11, od11, .func (PySem.W.fnOf "_law_known" "_law_known" (defArgs s_known) (defBody s_known) (defScope s_known) .none kV11 dc11 pm11 an11 cd11 ct11), sl11⟩) (c11 : PySem.W.codeIn K cd11 "_law_known" = true) (k11 : PySem.W.keepIn K (.ref f11) = true)
    (a12 : PySem.W.nsIn K mainGlobals "_law_one_of" = some (some (.ref f12))) (l12 : K.lookup f12 = some ⟨oc12, od12, .func (PySem.W.fnOf "_law_one_of" "_law_one_of" (defArgs s_one_of) (defBody s_one_of) (defScope s_one_of) .none kV12 dc12 pm12 an12 cd12 ct12), sl12⟩) (c12 : PySem.W.codeIn K cd12 "_law_one_of" = true) (k12 : PySem.W.keepIn K (.ref f12) = true)
    (a13 : PySem.W.nsIn K mainGlobals "_law_odd" = some (some (.ref f13))) (l13 : K.lookup f13 = some ⟨oc13, od13, .func (PySem.W.fnOf "_law_odd" "_law_odd" (defArgs s_odd) (defBody s_odd) (defScope s_odd) .none kV13 dc13 pm13 an13 cd13 ct13), sl13⟩) (c13 : PySem.W.codeIn K cd13 "_law_odd" = true) (k13 : PySem.W.keepIn K (.ref f13) = true)
    (a14 : PySem.W.nsIn K mainGlobals "is_number_below" = some (some (.ref f14))) (l14 : K.lookup f14 = some ⟨oc14, od14, .func (PySem.W.fnOf "is_number_below" "is_number_below" (defArgs s_is_number_below) (defBody s_is_number_below) (defScope s_is_number_below) .none kV14 dc14 pm14 an14 cd14 ct14), sl14⟩) (c14 : PySem.W.codeIn K cd14 "is_number_below" = true) (k14 : PySem.W.keepIn K (.ref f14) = true)
    (a15 : PySem.W.nsIn K mainGlobals "input_count" = some (some (.ref f15))) (l15 : K.lookup f15 = some ⟨oc15, od15, .func (PySem.W.fnOf "input_count" "input_count" (defArgs s_input_count) (defBody s_input_count) (defScope s_input_count) .none kV15 dc15 pm15 an15 cd15 ct15), sl15⟩) (c15 : PySem.W.codeIn K cd15 "input_count" = true) (k15 : PySem.W.keepIn K (.ref f15) = true)
    (a16 : PySem.W.nsIn K mainGlobals "output_count" = some (some (.ref f16))) (l16 : K.lookup f16 = some ⟨oc16, od16, .func (PySem.W.fnOf "output_count" "output_count" (defArgs s_output_count) (defBody s_output_count) (defScope s_output_count) .none kV16 dc16 pm16 an16 cd16 ct16), sl16⟩) (c16 : PySem.W.codeIn K cd16 "output_count" = true) (k16 : PySem.W.keepIn K (.ref f16) = true)
    (a17 : PySem.W.nsIn K mainGlobals "_law_is_index" = some (some (.ref f17))) (l17 : K.lookup f17 = some ⟨oc17, od17, .func (PySem.W.fnOf "_law_is_index" "_law_is_index" (defArgs s_is_index) (defBody s_is_index) (defScope s_is_index) .none kV17 dc17 pm17 an17 cd17 ct17), sl17⟩) (c17 : PySem.W.codeIn K cd17 "_law_is_index" = true) (k17 : PySem.W.keepIn K (.ref f17) = true)
    (a18 : PySem.W.nsIn K mainGlobals "_law_bent" = some (some (.ref f18))) (l18 : K.lookup f18 = some ⟨oc18, od18, .func (PySem.W.fnOf "_law_bent" "_law_bent" (defArgs s_bent) (defBody s_bent) (defScope s_bent) .none kV18 dc18 pm18 an18 cd18 ct18), sl18⟩) (c18 : PySem.W.codeIn K cd18 "_law_bent" = true) (k18 : PySem.W.keepIn K (.ref f18) = true)
    (a19 : PySem.W.nsIn K mainGlobals "is_entry" = some (some (.ref f19))) (l19 : K.lookup f19 = some ⟨oc19, od19, .func (PySem.W.fnOf "is_entry" "is_entry" (defArgs s_is_entry) (defBody s_is_entry) (defScope s_is_entry) .none kV19 dc19 pm19 an19 cd19 ct19), sl19⟩) (c19 : PySem.W.codeIn K cd19 "is_entry" = true) (k19 : PySem.W.keepIn K (.ref f19) = true)
    (a20 : PySem.W.nsIn K mainGlobals "is_tuple_of_length" = some (some (.ref f20))) (l20 : K.lookup f20 = some ⟨oc20, od20, .func (PySem.W.fnOf "is_tuple_of_length" "is_tuple_of_length" (defArgs s_is_tuple_of_length) (defBody s_is_tuple_of_length) (defScope s_is_tuple_of_length) .none kV20 dc20 pm20 an20 cd20 ct20), sl20⟩) (c20 : PySem.W.codeIn K cd20 "is_tuple_of_length" = true) (k20 : PySem.W.keepIn K (.ref f20) = true)
    (a21 : PySem.W.nsIn K mainGlobals "is_row" = some (some (.ref f21))) (l21 : K.lookup f21 = some ⟨oc21, od21, .func (PySem.W.fnOf "is_row" "is_row" (defArgs s_is_row) (defBody s_is_row) (defScope s_is_row) .none kV21 dc21 pm21 an21 cd21 ct21), sl21⟩) (c21 : PySem.W.codeIn K cd21 "is_row" = true) (k21 : PySem.W.keepIn K (.ref f21) = true)
    (a22 : PySem.W.nsIn K mainGlobals "is_state" = some (some (.ref f22))) (l22 : K.lookup f22 = some ⟨oc22, od22, .func (PySem.W.fnOf "is_state" "is_state" (defArgs s_is_state) (defBody s_is_state) (defScope s_is_state) .none kV22 dc22 pm22 an22 cd22 ct22), sl22⟩) (c22 : PySem.W.codeIn K cd22 "is_state" = true) (k22 : PySem.W.keepIn K (.ref f22) = true)
    (a23 : PySem.W.nsIn K mainGlobals "is_filled_tuple" = some (some (.ref f23))) (l23 : K.lookup f23 = some ⟨oc23, od23, .func (PySem.W.fnOf "is_filled_tuple" "is_filled_tuple" (defArgs s_is_filled_tuple) (defBody s_is_filled_tuple) (defScope s_is_filled_tuple) .none kV23 dc23 pm23 an23 cd23 ct23), sl23⟩) (c23 : PySem.W.codeIn K cd23 "is_filled_tuple" = true) (k23 : PySem.W.keepIn K (.ref f23) = true)
    (a24 : PySem.W.nsIn K mainGlobals "is_judge" = some (some (.ref f24))) (l24 : K.lookup f24 = some ⟨oc24, od24, .func (PySem.W.fnOf "is_judge" "is_judge" (defArgs s_is_judge) (defBody s_is_judge) (defScope s_is_judge) .none kV24 dc24 pm24 an24 cd24 ct24), sl24⟩) (c24 : PySem.W.codeIn K cd24 "is_judge" = true) (k24 : PySem.W.keepIn K (.ref f24) = true)
    (a25 : PySem.W.nsIn K mainGlobals "_law_is_judge" = some (some (.ref f25))) (l25 : K.lookup f25 = some ⟨oc25, od25, .func (PySem.W.fnOf "_law_is_judge" "_law_is_judge" (defArgs s_law_is_judge) (defBody s_law_is_judge) (defScope s_law_is_judge) .none kV25 dc25 pm25 an25 cd25 ct25), sl25⟩) (c25 : PySem.W.codeIn K cd25 "_law_is_judge" = true) (k25 : PySem.W.keepIn K (.ref f25) = true)
    (a26 : PySem.W.nsIn K mainGlobals "_law_value_right" = some (some (.ref f26))) (l26 : K.lookup f26 = some ⟨oc26, od26, .func (PySem.W.fnOf "_law_value_right" "_law_value_right" (defArgs s_value_right) (defBody s_value_right) (defScope s_value_right) .none kV26 dc26 pm26 an26 cd26 ct26), sl26⟩) (c26 : PySem.W.codeIn K cd26 "_law_value_right" = true) (k26 : PySem.W.keepIn K (.ref f26) = true)
    (a27 : PySem.W.nsIn K mainGlobals "_law_right" = some (some (.ref f27))) (l27 : K.lookup f27 = some ⟨oc27, od27, .func (PySem.W.fnOf "_law_right" "_law_right" (defArgs s_right) (defBody s_right) (defScope s_right) .none kV27 dc27 pm27 an27 cd27 ct27), sl27⟩) (c27 : PySem.W.codeIn K cd27 "_law_right" = true) (k27 : PySem.W.keepIn K (.ref f27) = true)
    (a28 : PySem.W.nsIn K mainGlobals "law" = some (some (.ref f28))) (l28 : K.lookup f28 = some ⟨oc28, od28, .func (PySem.W.fnOf "law" "law" (defArgs s_law) (defBody s_law) (defScope s_law) .none kV28 dc28 pm28 an28 cd28 ct28), sl28⟩) (c28 : PySem.W.codeIn K cd28 "law" = true) (k28 : PySem.W.keepIn K (.ref f28) = true)
    {t_MOST_STATES t_MOST_LETTERS : Tok}
    (g_MOST_STATES : PySem.W.nsIn K mainGlobals "MOST_STATES" = some (some (.int 8 t_MOST_STATES)))
    (g_MOST_LETTERS : PySem.W.nsIn K mainGlobals "MOST_LETTERS" = some (some (.int 4 t_MOST_LETTERS)))
    (z_len : PySem.W.nsIn K mainGlobals "len" = some none)
    (z_range : PySem.W.nsIn K mainGlobals "range" = some none)
    (z_tuple : PySem.W.nsIn K mainGlobals "tuple" = some none)
    (z_list : PySem.W.nsIn K mainGlobals "list" = some none)
    (z_abs : PySem.W.nsIn K mainGlobals "abs" = some none)
    (z_int : PySem.W.nsIn K mainGlobals "int" = some none)
    (z_sorted : PySem.W.nsIn K mainGlobals "sorted" = some none)
    (z_set : PySem.W.nsIn K mainGlobals "set" = some none)
    (z_repr : PySem.W.nsIn K mainGlobals "repr" = some none)
    (z_max : PySem.W.nsIn K mainGlobals "max" = some none)
    (z_min : PySem.W.nsIn K mainGlobals "min" = some none)
    (z_all : PySem.W.nsIn K mainGlobals "all" = some none)
    (z_enumerate : PySem.W.nsIn K mainGlobals "enumerate" = some none)
    (z_isinstance : PySem.W.nsIn K mainGlobals "isinstance" = some none)
    (z_bool : PySem.W.nsIn K mainGlobals "bool" = some none)
    (z_str : PySem.W.nsIn K mainGlobals "str" = some none)
    (z_zip : PySem.W.nsIn K mainGlobals "zip" = some none)
    (z_sum : PySem.W.nsIn K mainGlobals "sum" = some none)
    (z_reversed : PySem.W.nsIn K mainGlobals "reversed" = some none)
    : ∃ fd : FuncData, (∀ (s : Shared) (v : Value), BindsTo s fd ⟨[v], []⟩ [("_law_script", v)]) ∧ ∀ base : Heap, K.In base → base.Ns mainGlobals mg → FnG l.prog w K mg base CX0 31 fa fd ["_law_script"] (spLaw K) := by
  have e := hfa.symm.trans (PySem.W.mg_of X G a28)
  cases e
  have T : Bt mg := ⟨PySem.W.mg_none_of X G z_len, PySem.W.mg_none_of X G z_range, PySem.W.mg_none_of X G z_tuple, PySem.W.mg_none_of X G z_list, PySem.W.mg_none_of X G z_abs, PySem.W.mg_none_of X G z_int, PySem.W.mg_none_of X G z_sorted, PySem.W.mg_none_of X G z_set, PySem.W.mg_none_of X G z_repr, PySem.W.mg_none_of X G z_max, PySem.W.mg_none_of X G z_min, PySem.W.mg_none_of X G z_all, PySem.W.mg_none_of X G z_enumerate, PySem.W.mg_none_of X G z_isinstance, PySem.W.mg_none_of X G z_bool, PySem.W.mg_none_of X G z_str, PySem.W.mg_none_of X G z_zip, PySem.W.mg_none_of X G z_sum, PySem.W.mg_none_of X G z_reversed⟩
  have F1 := fun_mk (st := s_take) l1 c1 k1
  have b1 := F1.binds (ps := ["_law_pot_here", "_law_many"]) fun _ _ _ _ _ _ us hl => match us, hl with | [_, _], _ => rfl
  have F2 := fun_mk (st := s_pot) l2 c2 k2
  have b2 := F2.binds (ps := ["_law_script", "_law_k"]) fun _ _ _ _ _ _ us hl => match us, hl with | [_, _], _ => rfl
  have F3 := fun_mk (st := s_of) l3 c3 k3
  have b3 := F3.binds (ps := ["_law_pot_here", "_law_some"]) fun _ _ _ _ _ _ us hl => match us, hl with | [_, _], _ => rfl
  have F4 := fun_mk (st := s_mixed) l4 c4 k4
  have b4 := F4.binds (ps := ["_law_pot_here", "_law_some"]) fun _ _ _ _ _ _ us hl => match us, hl with | [_, _], _ => rfl
  have F5 := fun_mk (st := s_judge) l5 c5 k5
  have b5 := F5.binds (ps := ["_law_pot_here", "_law_most", "_law_inputs_most", "_law_outputs_most"]) fun _ _ _ _ _ _ us hl => match us, hl with | [_, _, _, _], _ => rfl
  have F6 := fun_mk (st := s_all_words) l6 c6 k6
  have b6 := F6.binds (ps := ["_law_letters", "_law_length"]) fun _ _ _ _ _ _ us hl => match us, hl with | [_, _], _ => rfl
  have F7 := fun_mk (st := s_further) l7 c7 k7
  have b7 := F7.binds (ps := ["_law_letters", "_law_far"]) fun _ _ _ _ _ _ us hl => match us, hl with | [_, _], _ => rfl
  have F8 := fun_mk (st := s_parity) l8 c8 k8
  have b8 := F8.binds (ps := ["_law_phases"]) fun _ _ _ _ _ _ us hl => match us, hl with | [_], _ => rfl
  have F9 := fun_mk (st := s_endless) l9 c9 k9
  have b9 := F9.binds (ps := []) fun _ _ _ _ _ _ us hl => match us, hl with | [], _ => rfl
  have F10 := fun_mk (st := s_turned) l10 c10 k10
  have b10 := F10.binds (ps := ["_law_judge_here", "_law_order", "_law_xs", "_law_ys"]) fun _ _ _ _ _ _ us hl => match us, hl with | [_, _, _, _], _ => rfl
  have F11 := fun_mk (st := s_known) l11 c11 k11
  have b11 := F11.binds (ps := ["_law_pot_here"]) fun _ _ _ _ _ _ us hl => match us, hl with | [_], _ => rfl
  have F12 := fun_mk (st := s_one_of) l12 c12 k12
  have b12 := F12.binds (ps := ["_law_pot_here"]) fun _ _ _ _ _ _ us hl => match us, hl with | [_], _ => rfl
  have F13 := fun_mk (st := s_odd) l13 c13 k13
  have b13 := F13.binds (ps := ["_law_pot_here"]) fun _ _ _ _ _ _ us hl => match us, hl with | [_], _ => rfl
  have F14 := fun_mk (st := s_is_number_below) l14 c14 k14
  have b14 := F14.binds (ps := ["value", "limit"]) fun _ _ _ _ _ _ us hl => match us, hl with | [_, _], _ => rfl
  have F15 := fun_mk (st := s_input_count) l15 c15 k15
  have b15 := F15.binds (ps := ["judge"]) fun _ _ _ _ _ _ us hl => match us, hl with | [_], _ => rfl
  have F16 := fun_mk (st := s_output_count) l16 c16 k16
  have b16 := F16.binds (ps := ["judge"]) fun _ _ _ _ _ _ us hl => match us, hl with | [_], _ => rfl
  have F17 := fun_mk (st := s_is_index) l17 c17 k17
  have b17 := F17.binds (ps := ["_law_thing", "_law_limit"]) fun _ _ _ _ _ _ us hl => match us, hl with | [_, _], _ => rfl
  have F18 := fun_mk (st := s_bent) l18 c18 k18
  have b18 := F18.binds (ps := ["_law_pot_here", "_law_thing"]) fun _ _ _ _ _ _ us hl => match us, hl with | [_, _], _ => rfl
  have F19 := fun_mk (st := s_is_entry) l19 c19 k19
  have b19 := F19.binds (ps := ["value", "states"]) fun _ _ _ _ _ _ us hl => match us, hl with | [_, _], _ => rfl
  have F20 := fun_mk (st := s_is_tuple_of_length) l20 c20 k20
  have b20 := F20.binds (ps := ["value", "length"]) fun _ _ _ _ _ _ us hl => match us, hl with | [_, _], _ => rfl
  have F21 := fun_mk (st := s_is_row) l21 c21 k21
  have b21 := F21.binds (ps := ["value", "states", "outputs"]) fun _ _ _ _ _ _ us hl => match us, hl with | [_, _, _], _ => rfl
  have F22 := fun_mk (st := s_is_state) l22 c22 k22
  have b22 := F22.binds (ps := ["value", "states", "inputs", "outputs"]) fun _ _ _ _ _ _ us hl => match us, hl with | [_, _, _, _], _ => rfl
  have F23 := fun_mk (st := s_is_filled_tuple) l23 c23 k23
  have b23 := F23.binds (ps := ["value", "most"]) fun _ _ _ _ _ _ us hl => match us, hl with | [_, _], _ => rfl
  have F24 := fun_mk (st := s_is_judge) l24 c24 k24
  have b24 := F24.binds (ps := ["value"]) fun _ _ _ _ _ _ us hl => match us, hl with | [_], _ => rfl
  have F25 := fun_mk (st := s_law_is_judge) l25 c25 k25
  have b25 := F25.binds (ps := ["_law_thing"]) fun _ _ _ _ _ _ us hl => match us, hl with | [_], _ => rfl
  have F26 := fun_mk (st := s_value_right) l26 c26 k26
  have b26 := F26.binds (ps := ["_law_thing"]) fun _ _ _ _ _ _ us hl => match us, hl with | [_], _ => rfl
  have F27 := fun_mk (st := s_right) l27 c27 k27
  have b27 := F27.binds (ps := ["_law_pot_here"]) fun _ _ _ _ _ _ us hl => match us, hl with | [_], _ => rfl
  have F28 := fun_mk (st := s_law) l28 c28 k28
  have b28 := F28.binds (ps := ["_law_script"]) fun _ _ _ _ _ _ us hl => match us, hl with | [_], _ => rfl
  refine ⟨PySem.W.fnOf "law" "law" (defArgs s_law) (defBody s_law) (defScope s_law) .none kV28 dc28 pm28 an28 cd28 ct28, fun s v => .of_eq rfl, fun base _ _ => ?_⟩
  have cl1 : C8.Cal l.prog w K mg base 1 "_law_take" spTake [] := ⟨f1, _, _, [], ok_take F1 , PySem.W.mg_of X G a1, k1, b1, .nil⟩
  have cl2 : C8.Cal l.prog w K mg base 1 "_law_pot" (spPot K) [] := ⟨f2, _, _, [], ok_pot F2 T, PySem.W.mg_of X G a2, k2, b2, .nil⟩
  have cl3 : C8.Cal l.prog w K mg base 2 "_law_of" spOf [] := ⟨f3, _, _, [], ok_of F3 T cl1, PySem.W.mg_of X G a3, k3, b3, .nil⟩
  have cl4 : C8.Cal l.prog w K mg base 2 "_law_mixed" (spMixed K) [] := ⟨f4, _, _, [], ok_mixed F4 T cl1, PySem.W.mg_of X G a4, k4, b4, .nil⟩
  have cl5 : C8.Cal l.prog w K mg base 3 "_law_judge" (spJudge K) [] := ⟨f5, _, _, [], ok_judge F5 T cl1 cl3, PySem.W.mg_of X G a5, k5, b5, .nil⟩
  have cl6 : C8.Cal l.prog w K mg base 1 "_law_all_words" (spAllWords K) [] := ⟨f6, _, _, [], ok_all_words F6 T, PySem.W.mg_of X G a6, k6, b6, .nil⟩
  have cl7 : C8.Cal l.prog w K mg base 2 "_law_further" (spFurther K) [] := ⟨f7, _, _, [], ok_further F7 T cl6, PySem.W.mg_of X G a7, k7, b7, .nil⟩
  have cl8 : C8.Cal l.prog w K mg base 1 "_law_parity" (spParity K) [] := ⟨f8, _, _, [], ok_parity F8 T, PySem.W.mg_of X G a8, k8, b8, .nil⟩
  have cl9 : C8.Cal l.prog w K mg base 1 "_law_endless" (spEndless K) [] := ⟨f9, _, _, [], ok_endless F9 T, PySem.W.mg_of X G a9, k9, b9, .nil⟩
  have cl10 : C8.Cal l.prog w K mg base 1 "_law_turned" (spTurned K) [] := ⟨f10, _, _, [], ok_turned F10 T, PySem.W.mg_of X G a10, k10, b10, .nil⟩
  have cl11 : C8.Cal l.prog w K mg base 3 "_law_known" (spKnown K) [] := ⟨f11, _, _, [], ok_known F11 T cl1 cl3 cl4 cl7 cl8 cl9 cl10, PySem.W.mg_of X G a11, k11, b11, .nil⟩
  have cl12 : C8.Cal l.prog w K mg base 4 "_law_one_of" (spOneOf K) [] := ⟨f12, _, _, [], ok_one_of F12 T cl1 cl11 cl5, PySem.W.mg_of X G a12, k12, b12, .nil⟩
  have cl13 : C8.Cal l.prog w K mg base 3 "_law_odd" (spOdd K) [] := ⟨f13, _, _, [], ok_odd F13 T cl3, PySem.W.mg_of X G a13, k13, b13, .nil⟩
  have cl14 : C8.Cal l.prog w K mg base 1 "is_number_below" (spNB K) [] := ⟨f14, _, _, [], ok_is_number_below F14 T, PySem.W.mg_of X G a14, k14, b14, .nil⟩
  have cl15 : C8.Cal l.prog w K mg base 1 "input_count" (spInC K) [] := ⟨f15, _, _, [], ok_input_count F15 T, PySem.W.mg_of X G a15, k15, b15, .nil⟩
  have cl16 : C8.Cal l.prog w K mg base 1 "output_count" (spOutC K) [] := ⟨f16, _, _, [], ok_output_count F16 T, PySem.W.mg_of X G a16, k16, b16, .nil⟩
  have cl17 : C8.Cal l.prog w K mg base 1 "_law_is_index" (spNB K) [] := ⟨f17, _, _, [], ok_is_index F17 T, PySem.W.mg_of X G a17, k17, b17, .nil⟩
  have cl18 : C8.Cal l.prog w K mg base 29 "_law_bent" (spBent K 25) [] := ⟨f18, _, _, [], ok_bent F18 T cl1 cl3 cl13 (PySem.W.mg_of X G a18) k18 b18 25, PySem.W.mg_of X G a18, k18, b18, .nil⟩
  have cl19 : C8.Cal l.prog w K mg base 2 "is_entry" (spEnt K) [] := ⟨f19, _, _, [], ok_is_entry F19 T cl14, PySem.W.mg_of X G a19, k19, b19, .nil⟩
  have cl20 : C8.Cal l.prog w K mg base 1 "is_tuple_of_length" (spTL K) [] := ⟨f20, _, _, [], ok_is_tuple_of_length F20 T, PySem.W.mg_of X G a20, k20, b20, .nil⟩
  have cl21 : C8.Cal l.prog w K mg base 3 "is_row" (spRw K) [] := ⟨f21, _, _, [], ok_is_row F21 T cl20 cl19, PySem.W.mg_of X G a21, k21, b21, .nil⟩
  have cl22 : C8.Cal l.prog w K mg base 4 "is_state" (spSt K) [] := ⟨f22, _, _, [], ok_is_state F22 T cl20 cl21, PySem.W.mg_of X G a22, k22, b22, .nil⟩
  have cl23 : C8.Cal l.prog w K mg base 1 "is_filled_tuple" (spFilled K) [] := ⟨f23, _, _, [], ok_is_filled_tuple F23 T, PySem.W.mg_of X G a23, k23, b23, .nil⟩
  have cl24 : C8.Cal l.prog w K mg base 5 "is_judge" (spJdg K) [] := ⟨f24, _, _, [], ok_is_judge F24 T ⟨_, PySem.W.mg_of X G g_MOST_STATES⟩ ⟨_, PySem.W.mg_of X G g_MOST_LETTERS⟩ cl23 cl22, PySem.W.mg_of X G a24, k24, b24, .nil⟩
  have cl25 : C8.Cal l.prog w K mg base 2 "_law_is_judge" (spJdg K) [] := ⟨f25, _, _, [], ok_law_is_judge F25 T cl17, PySem.W.mg_of X G a25, k25, b25, .nil⟩
  have cl26 : CalG l.prog w K mg base 6 "_law_value_right" (spVal K) := ⟨f26, _, _, ok_value_right F26 T cl24 cl25, PySem.W.mg_of X G a26, k26, b26⟩
  have cl27 : CalG l.prog w K mg base 30 "_law_right" spRight := ⟨f27, _, _, ok_right F27 T cl12 cl13 cl18 cl15 cl16 cl26, PySem.W.mg_of X G a27, k27, b27⟩
  exact ok_law F28 T cl2 cl27
end LA
open PySem PySem.W PyProof.Rows in
set_option maxRecDepth 100000 in
set_option maxHeartbeats 0 in
theorem PySem.Challenge.cw_leastahead_k01_judges_of_any_value_holds : PySem.Challenge.rw_leastahead_k01_judges_of_any_value.Holds := by
  w_on; o_law; k_head; (case hw => w_witness2)
  k_fill
  refine LA.walkG (l := PySem.Challenge.rw_leastahead_k01_judges_of_any_value) (n := 63) (k := 31) (sp := LA.spLaw) (x := "_law_script") rfl (by decide) rfl ⟨rfl, by decide, by decide⟩ (fun w h Y => PySem.W.kIn_of Y) ?F (fun K H a ns hl hS => ⟨a, ns, rfl, hS, hl, fun _ => rfl⟩)
  case F =>
    intro w mg fa h KX G hmg
    refine' LA.all_mk KX G hmg ?a1 ?l1 ?c1 ?k1 ?a2 ?l2 ?c2 ?k2 ?a3 ?l3 ?c3 ?k3 ?a4 ?l4 ?c4 ?k4 ?a5 ?l5 ?c5 ?k5 ?a6 ?l6 ?c6 ?k6 ?a7 ?l7 ?c7 ?k7 ?a8 ?l8 ?c8 ?k8 ?a9 ?l9 ?c9 ?k9 ?a10 ?l10 ?c10 ?k10 ?a11 ?l11 ?c11 ?k11 ?a12 ?l12 ?c12 ?k12 ?a13 ?l13 ?c13 ?k13 ?a14 ?l14 ?c14 ?k14 ?a15 ?l15 ?c15 ?k15 ?a16 ?l16 ?c16 ?k16 ?a17 ?l17 ?c17 ?k17 ?a18 ?l18 ?c18 ?k18 ?a19 ?l19 ?c19 ?k19 ?a20 ?l20 ?c20 ?k20 ?a21 ?l21 ?c21 ?k21 ?a22 ?l22 ?c22 ?k22 ?a23 ?l23 ?c23 ?k23 ?a24 ?l24 ?c24 ?k24 ?a25 ?l25 ?c25 ?k25 ?a26 ?l26 ?c26 ?k26 ?a27 ?l27 ?c27 ?k27 ?a28 ?l28 ?c28 ?k28 ?g_MOST_STATES ?g_MOST_LETTERS ?z_len ?z_range ?z_tuple ?z_list ?z_abs ?z_int ?z_sorted ?z_set ?z_repr ?z_max ?z_min ?z_all ?z_enumerate ?z_isinstance ?z_bool ?z_str ?z_zip ?z_sum ?z_reversed
    (case a1 => k_is)
    (case l1 => k_is)
    (case c1 => k_is)
    (case k1 => k_is)
    (case a2 => k_is)
    (case l2 => k_is)
    (case c2 => k_is)
    (case k2 => k_is)
    (case a3 => k_is)
    (case l3 => k_is)
    (case c3 => k_is)
    (case k3 => k_is)
    (case a4 => k_is)
    (case l4 => k_is)
    (case c4 => k_is)
    (case k4 => k_is)
    (case a5 => k_is)
    (case l5 => k_is)
    (case c5 => k_is)
    (case k5 => k_is)
    (case a6 => k_is)
    (case l6 => k_is)
    (case c6 => k_is)
    (case k6 => k_is)
    (case a7 => k_is)
    (case l7 => k_is)
    (case c7 => k_is)
    (case k7 => k_is)
    (case a8 => k_is)
    (case l8 => k_is)
    (case c8 => k_is)
    (case k8 => k_is)
    (case a9 => k_is)
    (case l9 => k_is)
    (case c9 => k_is)
    (case k9 => k_is)
    (case a10 => k_is)
    (case l10 => k_is)
    (case c10 => k_is)
    (case k10 => k_is)
    (case a11 => k_is)
    (case l11 => k_is)
    (case c11 => k_is)
    (case k11 => k_is)
    (case a12 => k_is)
    (case l12 => k_is)
    (case c12 => k_is)
    (case k12 => k_is)
    (case a13 => k_is)
    (case l13 => k_is)
    (case c13 => k_is)
    (case k13 => k_is)
    (case a14 => k_is)
    (case l14 => k_is)
    (case c14 => k_is)
    (case k14 => k_is)
    (case a15 => k_is)
    (case l15 => k_is)
    (case c15 => k_is)
    (case k15 => k_is)
    (case a16 => k_is)
    (case l16 => k_is)
    (case c16 => k_is)
    (case k16 => k_is)
    (case a17 => k_is)
    (case l17 => k_is)
    (case c17 => k_is)
    (case k17 => k_is)
    (case a18 => k_is)
    (case l18 => k_is)
    (case c18 => k_is)
    (case k18 => k_is)
    (case a19 => k_is)
    (case l19 => k_is)
    (case c19 => k_is)
    (case k19 => k_is)
    (case a20 => k_is)
    (case l20 => k_is)
    (case c20 => k_is)
    (case k20 => k_is)
    (case a21 => k_is)
    (case l21 => k_is)
    (case c21 => k_is)
    (case k21 => k_is)
    (case a22 => k_is)
    (case l22 => k_is)
    (case c22 => k_is)
    (case k22 => k_is)
    (case a23 => k_is)
    (case l23 => k_is)
    (case c23 => k_is)
    (case k23 => k_is)
    (case a24 => k_is)
    (case l24 => k_is)
    (case c24 => k_is)
    (case k24 => k_is)
    (case a25 => k_is)
    (case l25 => k_is)
    (case c25 => k_is)
    (case k25 => k_is)
    (case a26 => k_is)
    (case l26 => k_is)
    (case c26 => k_is)
    (case k26 => k_is)
    (case a27 => k_is)
    (case l27 => k_is)
    (case c27 => k_is)
    (case k27 => k_is)
    (case a28 => k_is)
    (case l28 => k_is)
    (case c28 => k_is)
    (case k28 => k_is)
    (case g_MOST_STATES => k_is)
    (case g_MOST_LETTERS => k_is)
    (case z_len => k_is)
    (case z_range => k_is)
    (case z_tuple => k_is)
    (case z_list => k_is)
    (case z_abs => k_is)
    (case z_int => k_is)
    (case z_sorted => k_is)
    (case z_set => k_is)
    (case z_repr => k_is)
    (case z_max => k_is)
    (case z_min => k_is)
    (case z_all => k_is)
    (case z_enumerate => k_is)
    (case z_isinstance => k_is)
    (case z_bool => k_is)
    (case z_str => k_is)
    (case z_zip => k_is)
    (case z_sum => k_is)
    (case z_reversed => k_is)
