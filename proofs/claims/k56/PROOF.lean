import PyProof.Rows.All
import Wide.All
import OpenK.AllK
import Wide.FinOn
import HandS.ForMost
import HandS.Wide
import HandS.Conv
import HandS.Codes
import HandS.Deep
import HandS.TupAny
import HandS.SortInts
import HandS.Strs
import HandS.Style
import HandS.Walk
import KE.GoesMore
import HandS.SetFor
import HandS.IsInst
import HandS.TupMul
import PyProof.Rows.IntBool
import PyProof.Rows.EqBoolInt
import KE.KRevSl
import PyProof.StrLawsRepr
import HandS.TupSets
import HandS.ForExc
import HandS.ExcInit
import HandS.ExcIs
import HandS.ExcField
import KE.KExcIs
import HandS.Lambda
import HandS.Comp
import HandS.SetBool
import KE.DataFind
import HandS.Zip
import KE.GoesEnum
import HandS.Rev
import KE.KDictKeyed
import HandS.Dict
import HandS.TupLen
import HandS.Iter
import KE.SortData
import KE.KDictCopyH
import KE.KDictSum
import KE.KDictPairs
import KE.SortLaws
import HandS.EndTab
import KE.KNest
import HandS.FltList
import KE.DataCmp
import HandS.ExcOwn
import PyProof.ExcBaseAll.ValueError
import PyProof.Rows.PlainNe
import HandS.OwnEq
import HandS.DictComp
import KE.KDictWalk
import PyProof.SumAny
import PyProof.Rows.ReprOcc
import PyProof.Rows.StrIntSpec
import HandS.Small
import KE.KDictList
import HandS.Sort
import HandS.RevRange
import KE.KDictDisplayH
import KE.KDictZip
import KE.KSortTup
import HandS.Records
import HandS.DictSub
import PySem.Challenge.RW_leastahead_k56_certificates_by_hand
set_option Elab.async false
set_option linter.all false
set_option maxRecDepth 100000
set_option maxHeartbeats 4000000
set_option maxHeartbeats 4000000
namespace LA
open PySem L2
/-- all that was tracked is as it was, but the object at p -/
def SameX (p : Addr) (H H' : Hp) : Prop := ∀ b o, H b = some o → b ≠ p → H' b = some o
theorem SameX.refl (p : Addr) (H : Hp) : SameX p H H := fun _ _ h _ => h
theorem SameX.trans {p : Addr} {H H1 H2 : Hp} (a : SameX p H H1) (b : SameX p H1 H2) : SameX p H H2 := fun c o h n => b c o (a c o h n) n
theorem SameX.new {p q : Addr} {H H' : Hp} {o : HO} (a : SameX p H H') (hq : H' q = none) : SameX p H (upd H' q o) := fun c u h n => by
  have h1 := a c u h n
  rw [upd_ne (ne_of_none h1 hq)]; exact h1
theorem SameX.at {p : Addr} {H H' : Hp} {o : HO} (a : SameX p H H') : SameX p H (upd H' p o) := fun c u h n => by
  rw [upd_ne n]; exact a c u h n
theorem SameX.own {p q : Addr} {H H' : Hp} {o : HO} (a : SameX p H H') (hq : H q = none) : SameX p H (upd H' q o) := fun c u h n => by
  rw [upd_ne (ne_of_none h hq)]; exact a c u h n
theorem _root_.L2.Same.x {p : Addr} {H H' : Hp} (a : Same H H') : SameX p H H' := fun b o h _ => a b o h
theorem _root_.L2.Same.new {q : Addr} {H H' : Hp} {o : HO} (a : Same H H') (hq : H' q = none) : Same H (upd H' q o) := fun c u h => by
  have h1 := a c u h
  rw [upd_ne (ne_of_none h1 hq)]; exact h1
theorem _root_.L2.Same.own {q : Addr} {H H' : Hp} {o : HO} (a : Same H H') (hq : H q = none) : Same H (upd H' q o) := fun c u h => by
  rw [upd_ne (ne_of_none h hq)]; exact a c u h
/-- tuples stay -/
def SameT (H H' : Hp) : Prop := ∀ b xs, (H b = some (.tup xs) → H' b = some (.tup xs)) ∧ ∀ o, H b = some (.frz o (.tup xs)) → H' b = some (.frz o (.tup xs))
theorem SameT.refl (H : Hp) : SameT H H := fun _ _ => ⟨id, fun _ => id⟩
theorem SameT.trans {H H1 H2 : Hp} (a : SameT H H1) (b : SameT H1 H2) : SameT H H2 := fun c xs => ⟨fun h => (b c xs).1 ((a c xs).1 h), fun o h => (b c xs).2 o ((a c xs).2 o h)⟩
theorem _root_.L2.Same.t {H H' : Hp} (a : Same H H') : SameT H H' := fun b xs => ⟨a b _, fun _ => a b _⟩
theorem SameX.t {p : Addr} {H H' : Hp} {ys : List V} (a : SameX p H H') (hp : H p = some (.lst ys)) : SameT H H' := fun b xs =>
  ⟨fun h => a b _ h (fun e => by subst e; rw [hp] at h; cases h), fun o h => a b _ h (fun e => by subst e; rw [hp] at h; cases h)⟩
theorem SameT.lst {H : Hp} {l : Addr} {xs ys : List V} (hl : H l = some (.lst xs)) : SameT H (upd H l (.lst ys)) := SameX.t (SameX.at (SameX.refl l H)) hl
theorem SameT.new {H : Hp} {q : Addr} {o : HO} (hq : H q = none) : SameT H (upd H q o) := Same.t (Same.new (Same.refl H) hq)
theorem SameT.seq {K : PySem.W.Frag} {H H' : Hp} {a : Addr} {xs : List V} (e : SameT H H') (h : SqT K H a xs) : SqT K H' a xs := by
  rcases h with (h | ⟨o, h⟩) | h
  · exact .inl (.inl ((e _ _).1 h))
  · exact .inl (.inr ⟨o, (e _ _).2 _ h⟩)
  · exact .inr h

/-- the law's own source of draws -/
def PotAt (H : Hp) (p : Addr) (n : Nat) : Prop := ∃ a b c : Int, H p = some (.lst [.int a, .int b, .int c]) ∧ 0 ≤ a ∧ 0 ≤ b ∧ b < 2305843009213693951 ∧ 0 ≤ c ∧ c ≤ n
theorem PotAt.mono {H : Hp} {p : Addr} {n m : Nat} (h : PotAt H p n) (hm : n ≤ m) : PotAt H p m := by
  obtain ⟨a, b, c, h1, h2, h3, h4, h5, h6⟩ := h
  exact ⟨a, b, c, h1, h2, h3, h4, h5, by omega⟩
theorem PotAt.lst {H : Hp} {p : Addr} {n : Nat} (h : PotAt H p n) : ∃ ys, H p = some (.lst ys) := let ⟨_, _, _, h1, _⟩ := h; ⟨_, h1⟩
theorem PotAt.ne {H : Hp} {p q : Addr} {n : Nat} (h : PotAt H p n) (hq : H q = none) : q ≠ p := let ⟨_, h1⟩ := h.lst; fun e => by subst e; rw [h1] at hq; cases hq
theorem PotAt.new {H : Hp} {p q : Addr} {n : Nat} {o : HO} (h : PotAt H p n) (hq : q ≠ p) : PotAt (upd H q o) p n := by
  obtain ⟨a, b, c, h1, r⟩ := h
  exact ⟨a, b, c, by rw [upd_ne (Ne.symm hq)]; exact h1, r⟩
theorem PotAt.t {H H' : Hp} {p : Addr} {n : Nat} (h : PotAt H p n) (s : SameX p H H') : SameT H H' := let ⟨_, h1⟩ := h.lst; s.t h1
theorem SameX.free {p q : Addr} {H H' : Hp} {n : Nat} (s : SameX p H H') (h : PotAt H' p n) (hq : H' q = none) : H q = none := by
  have hne := h.ne hq
  cases e : H q with
  | none => rfl
  | some o => rw [s q o e hne] at hq; cases hq
def spTake : Sp := fun vs H Q _ => ∃ (p : Addr) (m : Int) (n : Nat), vs = [.ref p, .int m] ∧ 0 < m ∧ m < 1073741824 ∧ PotAt H p n ∧ n < 1000000 ∧
  ∀ (H' : Hp) (r : Nat), SameX p H H' → PotAt H' p (n + 1) → (r : Int) < m → Q (.int r) H'
theorem at3 (a b c : V) : atI [a, b, c] 0 = some a ∧ atI [a, b, c] 1 = some b ∧ atI [a, b, c] 2 = some c := ⟨atI_nat (j := 0) rfl, atI_nat (j := 1) rfl, atI_nat (j := 2) rfl⟩
theorem mod_nat {a m : Int} (hm : 0 < m) : ∃ r : Nat, a % m = (r : Int) ∧ (r : Int) < m := ⟨(a % m).toNat, by have := Int.emod_nonneg a (by omega : m ≠ 0); omega, by have := Int.emod_lt_of_pos a hm; have := Int.emod_nonneg a (by omega : m ≠ 0); omega⟩
end LA
namespace LA
open PySem L2
/-- the built-in names that the texts use are not bound in the module -/
structure Bt (mg : Str → Option Value) : Prop where
  len : mg "len" = none
  range : mg "range" = none
  tuple : mg "tuple" = none
  list : mg "list" = none
  abs : mg "abs" = none
  int : mg "int" = none
  sorted : mg "sorted" = none
  set : mg "set" = none
  repr : mg "repr" = none
  max : mg "max" = none
  min : mg "min" = none
  all : mg "all" = none
  enumerate : mg "enumerate" = none
  isinstance : mg "isinstance" = none
  bool : mg "bool" = none
  str : mg "str" = none
  zip : mg "zip" = none
  sum : mg "sum" = none
  reversed : mg "reversed" = none
def spMixed (K : PySem.W.Frag) : Sp := fun vs H Q _ => ∃ (p l : Addr) (ns : List Int) (n : Nat), vs = [.ref p, .ref l] ∧ H l = some (.lst (ns.map V.int)) ∧ l ≠ p ∧ ns.length ≤ 1000 ∧ PotAt H p n ∧ n + ns.length < 1000000 ∧
  ∀ (H' : Hp) (q : Addr) (ms : List Int), SameX p H H' → PotAt H' p (n + ns.length) → H q = none → H' q = some (.lst (ms.map V.int)) → ms.Perm ns → Q (.ref q) H'
def spPot (K : PySem.W.Frag) : Sp := fun vs H Q _ => ∃ (a : Addr) (ns : List Int) (k : Nat), vs = [.ref a, .int (k : Int)] ∧ SqL K H a (ns.map V.int) ∧ k ≤ 63 ∧
  ∀ (H' : Hp) (p : Addr), Same H H' → H p = none → PotAt H' p 0 → Q (.ref p) H'
section
variable {X : Cx}
theorem op_mul_str : OpR X (binaryOp .Mult) (fun x y H Q => ∃ (i : Str) (n : Int), x = .str i ∧ y = .int n ∧ MulOk i n ∧ Q (.str (Txt.mul i n)) H) := by
  intro pins s σ H x y v u Q I rx ry h
  obtain ⟨i, n, rfl, rfl, hok, q⟩ := h
  obtain ⟨t, rfl⟩ := rx
  obtain ⟨t', rfl⟩ := ry
  exact SB.mul hok fun t2 k => ⟨.str _, H, I.tok _, ⟨_, rfl⟩, q⟩
end
end LA
namespace LA
open PySem L2
theorem perm_erase : ∀ (l : List Int) (r : Nat) (h : r < l.length), (l[r] :: l.eraseIdx r).Perm l
  | a :: l, 0, _ => by simp
  | a :: l, r + 1, h => by
    have h' : r < l.length := by simpa using h
    have ih := perm_erase l r h'
    simp only [List.getElem_cons_succ, List.eraseIdx_cons_succ]
    exact (List.Perm.swap a l[r] (l.eraseIdx r)).trans (ih.cons a)
theorem map_erase : ∀ (l : List Int) (r : Nat), (l.map V.int).eraseIdx r = (l.eraseIdx r).map V.int
  | [], _ => by simp
  | a :: l, 0 => by simp
  | a :: l, r + 1 => by simp [map_erase l r]
theorem seqIx {n r : Nat} (h : r < n) : seqIndex? (r : Int) n = some r := by
  have e : ixN n (r : Int) = some r := by
    unfold ixN
    rw [if_pos (by omega), if_pos (by omega)]; simp
  exact (ixN_seq e).1
theorem ixN_nat {n r : Nat} (h : r < n) : ixN n (r : Int) = some r := by
  unfold ixN
  rw [if_pos (by omega), if_pos (by omega)]; simp
end LA

set_option maxHeartbeats 4000000
namespace LA
open PySem L2
abbrev Rw := List (Option Nat)
abbrev Sd := List Rw
abbrev Jd := List Sd
def oV : Option Nat → V
  | none => .non
  | some n => .int (n : Int)
theorem paired_snoc {α β : Type} {R : α → β → Prop} : ∀ {xs : List α} {ys : List β} {x : α} {y : β}, Paired R xs ys → R x y → Paired R (xs ++ [x]) (ys ++ [y])
  | _, _, _, _, .nil, h => .cons h .nil
  | _, _, _, _, .cons r t, h => .cons r (paired_snoc t h)
theorem paired_map {α β : Type} {R R' : α → β → Prop} : ∀ {xs : List α} {ys : List β}, Paired R xs ys → (∀ x y, R x y → R' x y) → Paired R' xs ys
  | _, _, .nil, _ => .nil
  | _, _, .cons r t, h => .cons (h _ _ r) (paired_map t h)
theorem paired_len {α β : Type} {R : α → β → Prop} : ∀ {xs : List α} {ys : List β}, Paired R xs ys → xs.length = ys.length
  | _, _, .nil => rfl
  | _, _, .cons _ t => by simp [paired_len t]
theorem paired_at {α β : Type} {R : α → β → Prop} : ∀ {xs : List α} {ys : List β} {i : Nat} {x : α}, Paired R xs ys → xs[i]? = some x → ∃ y, ys[i]? = some y ∧ R x y
  | _, _, 0, _, .cons r _, h => by simp at h; subst h; exact ⟨_, rfl, r⟩
  | _, _, i + 1, _, .cons _ t, h => by
    obtain ⟨y, h1, h2⟩ := paired_at (i := i) t (by simpa using h)
    exact ⟨y, by simpa using h1, h2⟩
theorem paired_at' {α β : Type} {R : α → β → Prop} : ∀ {xs : List α} {ys : List β} {i : Nat} {y : β}, Paired R xs ys → ys[i]? = some y → ∃ x, xs[i]? = some x ∧ R x y
  | _, _, 0, _, .cons r _, h => by simp at h; subst h; exact ⟨_, rfl, r⟩
  | _, _, i + 1, _, .cons _ t, h => by
    obtain ⟨y, h1, h2⟩ := paired_at' (i := i) t (by simpa using h)
    exact ⟨y, by simpa using h1, h2⟩
def RowAt (K : PySem.W.Frag) (H : Hp) (v : V) (r : Rw) : Prop := ∃ a, v = .ref a ∧ SqT K H a (r.map oV)
def StAt (K : PySem.W.Frag) (H : Hp) (v : V) (s : Sd) : Prop := ∃ a vs, v = .ref a ∧ SqT K H a vs ∧ Paired (RowAt K H) vs s
def JAt (K : PySem.W.Frag) (H : Hp) (v : V) (j : Jd) : Prop := ∃ a vs, v = .ref a ∧ SqT K H a vs ∧ Paired (StAt K H) vs j
section
variable {K : PySem.W.Frag} {H H' : Hp} {v : V}
theorem RowAt.t {r : Rw} (h : RowAt K H v r) (s : SameT H H') : RowAt K H' v r := let ⟨a, e, q⟩ := h; ⟨a, e, s.seq q⟩
theorem StAt.t {r : Sd} (h : StAt K H v r) (s : SameT H H') : StAt K H' v r := let ⟨a, vs, e, q, p⟩ := h; ⟨a, vs, e, s.seq q, paired_map p fun _ _ x => x.t s⟩
theorem JAt.t {r : Jd} (h : JAt K H v r) (s : SameT H H') : JAt K H' v r := let ⟨a, vs, e, q, p⟩ := h; ⟨a, vs, e, s.seq q, paired_map p fun _ _ x => x.t s⟩
end
/-- a state with nx rows of ny entries below n -/
def StOk (nx ny n : Nat) (s : Sd) : Prop := s.length = nx ∧ ∀ r ∈ s, r.length = ny ∧ ∀ m, some m ∈ r → m < n
/-- a judge with n states -/
structure IsJ (j : Jd) (nx ny : Nat) : Prop where
  n1 : 1 ≤ j.length
  n8 : j.length ≤ 8
  x1 : 1 ≤ nx
  x4 : nx ≤ 4
  y1 : 1 ≤ ny
  y4 : ny ≤ 4
  st : ∀ s ∈ j, StOk nx ny j.length s
end LA
namespace LA
open PySem L2
def nV (x : Nat) : V := .int (x : Int)
def WordAt (K : PySem.W.Frag) (H : Hp) (v : V) (w : List Nat) : Prop := ∃ a, v = .ref a ∧ SqT K H a (w.map nV)
theorem WordAt.t {K : PySem.W.Frag} {H H' : Hp} {v : V} {w : List Nat} (h : WordAt K H v w) (s : SameT H H') : WordAt K H' v w := let ⟨a, e, q⟩ := h; ⟨a, e, s.seq q⟩
def allW (L : Nat) : Nat → List (List Nat)
  | 0 => [[]]
  | n + 1 => (allW L n).flatMap fun w => (List.range L).map fun x => w ++ [x]
theorem flat_len {α β : Type} (f : α → List β) (c : Nat) : ∀ l : List α, (∀ x ∈ l, (f x).length = c) → (l.flatMap f).length = l.length * c
  | [], _ => by simp
  | a :: l, h => by
    have ih := flat_len f c l fun x hx => h x (List.mem_cons_of_mem _ hx)
    rw [List.flatMap_cons, List.length_append, ih, h a List.mem_cons_self, List.length_cons, Nat.add_mul]; omega
theorem allW_len (L : Nat) : ∀ n, (allW L n).length = L ^ n
  | 0 => rfl
  | n + 1 => by
    show ((allW L n).flatMap fun w => (List.range L).map fun x => w ++ [x]).length = _
    rw [flat_len _ L _ (by intro w _; simp), allW_len L n, Nat.pow_succ]
theorem mem_allW (L : Nat) : ∀ (n : Nat) (w : List Nat), w ∈ allW L n ↔ w.length = n ∧ ∀ x ∈ w, x < L
  | 0, w => by simp [allW]; intro h; subst h; simp
  | n + 1, w => by
    show w ∈ ((allW L n).flatMap fun w => (List.range L).map fun x => w ++ [x]) ↔ _
    simp only [List.mem_flatMap, List.mem_map, List.mem_range]
    constructor
    · rintro ⟨u, hu, x, hx, rfl⟩
      obtain ⟨h1, h2⟩ := (mem_allW L n u).mp hu
      refine ⟨by simp [h1], fun y hy => ?_⟩
      simp at hy
      rcases hy with hy | rfl
      · exact h2 y hy
      · exact hx
    · rintro ⟨h1, h2⟩
      have hne : w ≠ [] := by intro e; subst e; simp at h1
      refine ⟨w.dropLast, (mem_allW L n _).mpr ⟨by simp [h1], fun x hx => h2 x (List.dropLast_subset w hx)⟩, w.getLast hne, h2 _ (List.getLast_mem hne), ?_⟩
      exact List.dropLast_concat_getLast hne
theorem paired_append {α β : Type} {R : α → β → Prop} : ∀ {xs zs : List α} {ys ws : List β}, Paired R xs ys → Paired R zs ws → Paired R (xs ++ zs) (ys ++ ws)
  | _, _, _, _, .nil, h => h
  | _, _, _, _, .cons r t, h => .cons r (paired_append t h)
end LA
namespace LA
open PySem L2
theorem tyes {σ : L2.St} {H : Hp} {A B : Hp → Prop} (h : A H) : tYes σ H (fun b H3 => if b = true then A H3 else B H3) := by show if true = true then A H else B H; rw [if_pos rfl]; exact h
end LA
namespace LA
open PySem L2
def plcs (L F : Nat) : List (List Nat) := (List.range (F + 1)).flatMap (allW L)
end LA

set_option maxHeartbeats 4000000
namespace LA
open PySem PySem.Spec PyProof.Rows L2
open AutoSeq1 (wpAny_loadPart')
theorem enumNewT (l : Addr) (its : Array Value) (n : Nat) (dct : Option Addr) (sl : Array (Option Value)) :
    Meets (Builtin.«enumerate.__new__» ⟨[.type "enumerate", .ref l], []⟩) (fun _ R st => st.heap.get? l = some { cls := .type "tuple", dict := dct, data := .seq its n, slots := sl } ∧
      R (.ok (.ret (.ref (st.heap.push { cls := .type "tuple_iterator", data := .fields #[.ref l, .int 0 0] }).objs.size)))
        { st with heap := (st.heap.push { cls := .type "tuple_iterator", data := .fields #[.ref l, .int 0 0] }).push { cls := .type "enumerate", data := .fields #[.none, .bool false, .ref st.heap.objs.size, rawInt 0, .none, .none] } }) :=
  .of_wp fun pr wo A R st hyp => by
    obtain ⟨hp, g, d, tk, os⟩ := st; obtain ⟨hl, hy⟩ := hyp
    have hs0 := sub_enumerate
    have hTu : Heap.IsTuple (Shared.heap ⟨hp, g, d, tk, os⟩) l its := ⟨_, hl, rfl, n, rfl⟩
    wp_walk using wpAny_loadPart' hl
    refine wpAny_stack_any fun stk => wpAny_pure ?_
    split
    · rename_i c _ _ _ _ _
      cases (c == Value.type "enumerate")
      · (wp_walk using wpAny_loadPart' hl, wpAny_pyIter_tuple hTu); exact ⟨_, rfl, hy⟩
      · (wp_walk using wpAny_loadPart' hl, wpAny_pyIter_tuple hTu); exact ⟨_, rfl, hy⟩
    · (wp_walk using wpAny_loadPart' hl, wpAny_pyIter_tuple hTu); exact ⟨_, rfl, hy⟩
theorem enumCallT {pr : Program} {wo : World} {A : Around} {E : Value → Shared → Prop} {st : Shared} {l : Addr} {its : Array Value} {Q : Value → Shared → Prop} (hL : st.heap.IsTuple l its)
    (hq : ∀ h', IsEnum h' (st.heap.objs.size + 1) st.heap.objs.size 0 .none → h'.IsTupleIter st.heap.objs.size l 0 → h'.objs.size = st.heap.objs.size + 2 →
      (∀ b o, st.heap.get? b = some o → h'.get? b = some o) → Q (.ref (st.heap.objs.size + 1)) { st with heap := h' }) :
    wpAny (model pr wo) A (call (.type "enumerate") [.ref l]) Q E st := by
  obtain ⟨⟨c, dct, dt, sl⟩, hl, hc, n, hd⟩ := hL
  simp only at hc hd
  subst hc hd
  refine callType_new F.called_enumerate (by decide) (F.typeCall_enumerate_1 _) (F.newCall_enumerate_1 _) (fun obj => F.args_object_init_2 obj _) F.entry_enumerate_new (enumNewT l its n dct sl) ⟨hl, ?_⟩
  have hz : (st.heap.push { cls := .type "tuple_iterator", data := .fields #[.ref l, .int 0 0] }).objs.size = st.heap.objs.size + 1 := Heap.size_push ..
  show _ ∧ _
  rw [hz]
  have he : IsEnum ((st.heap.push { cls := .type "tuple_iterator", data := .fields #[.ref l, .int 0 0] }).push
      { cls := .type "enumerate", data := .fields #[.none, .bool false, .ref st.heap.objs.size, rawInt 0, .none, .none] }) (st.heap.objs.size + 1) st.heap.objs.size 0 .none := by
    have q := Heap.get?_push_size (st.heap.push { cls := .type "tuple_iterator", data := .fields #[.ref l, .int 0 0] })
      (o := { cls := .type "enumerate", data := .fields #[.none, .bool false, .ref st.heap.objs.size, rawInt 0, .none, .none] }) rfl
    rw [hz] at q; exact q
  refine ⟨⟨_, he, rfl⟩, hq _ he ⟨_, Heap.get?_push_of_some _ (Heap.get?_push_size _ rfl), rfl, rfl⟩ (by rw [Heap.size_push, hz]) fun b o x => Heap.get?_push_of_some _ (Heap.get?_push_of_some _ x)⟩
def IteT (K : PySem.W.Frag) (a : Addr) : It :=
  ⟨fun i H => ∃ (xs : List V) (x : V), SqT K H a xs ∧ xs[i]? = some x, fun i H v H' => ∃ T x, v = .ref T ∧ H T = none ∧ H' = upd H T (.tup [.int (i : Nat), x]) ∧ ∀ xs, SqT K H a xs → xs[i]? = some x, fun i H => ∃ xs : List V, SqT K H a xs ∧ xs.length ≤ i⟩
theorem turnEnumT {P : Program} {w : World} {K : PySem.W.Frag} {elts : List Expr} {kk : Nat} {tpos : Pos} (a e it : Addr) :
    Turn P w K (.Tuple elts kk tpos) (IteT K a) [e, it] e (fun i h => (∃ old, IsEnum h e it ((i : Nat) : Int) old) ∧ h.IsTupleIter it a i ∧ e ≠ it ∧ a ≠ it ∧ e ≠ a) where
  mem := by simp
  obj := fun i h st b hb => by
    obtain ⟨⟨old, he⟩, ⟨o, ho, hc, hd⟩, _⟩ := st
    have e' : b = e ∨ b = it := by simpa using hb
    rcases e' with rfl | rfl
    · exact ⟨_, he, fun v q => nomatch q⟩
    · exact ⟨o, ho, fun v q => by rw [hd] at q; cases q⟩
  keep := fun i h h' st k => ⟨⟨st.1.choose, k e (by simp) _ st.1.choose_spec⟩, st.2.1.at fun o q => k it (by simp) o q, st.2.2⟩
  item := by
    intro X hP hw hK hc i pins s σ H E I hf st hg
    subst hP hw hK
    obtain ⟨⟨old, he⟩, hit, hne, hai, hea⟩ := st
    obtain ⟨xs, x, hq, hx⟩ := hg
    obtain ⟨its, rv, p, hz⟩ := I.tuple hq
    obtain ⟨u, hu, ru⟩ := rv.get hx
    have hel : e < s.heap.objs.size := Heap.lt_size he
    have hil : it < s.heap.objs.size := by obtain ⟨_, q, _⟩ := hit; exact Heap.lt_size q
    have hil2 : i < its.toArray.size := by have := (List.getElem?_eq_some_iff.mp hu).1; simpa using this
    refine wpAny_pyNext_enum_itemD (Draws.tuple (A := X.A.in1) (I.ok.hd hc) it a hai its.toArray) he ⟨hit, p⟩ hil2 hne (by simp [hne, hea]) fun u' h' tk hu' ho hst' hT hsz hk => ?_
    have hit' := hst'.1
    have eu : u' = u := by
      have h1 : its[i]? = some u' := by simpa using hu'
      rw [hu] at h1; exact (Option.some.inj h1).symm
    subst eu
    refine ⟨_, rfl, wpAny_letOwnedTupleGo_enum (s := { s with heap := h', toks := tk + 1 }) ho fun h'' he' sb => ?_⟩
    have hT2 : h''.get? s.heap.objs.size = some { cls := .type "tuple", data := .seq #[.int i tk, u'] } := (sb.2 _ (Nat.ne_of_gt hel)).trans hT
    have new : ObjOk X.prog X.w (upd H s.heap.objs.size (.tup [.int (i : Nat), x])) h'' s.heap.objs.size (.tup [.int (i : Nat), x]) :=
      ⟨by show 2 ≤ sizeLine; decide, [.int i tk, u'], .cons ⟨_, rfl⟩ (.cons ru .nil), ⟨_, hT2, rfl, _, rfl⟩⟩
    have I1 : Inv X pins σ (upd H s.heap.objs.size (.tup [.int (i : Nat), x])) { s with heap := h'', toks := tk + 1 } :=
      I.turnedNew (ch := [e, it]) (fun b ob hb q => (sb.2 b (fun z => hb (by simp [z]))).trans (hk b ob (fun z => hb (by simp [z])) (fun z => hb (by simp [z])) q)) hf (Nat.le_refl _) new
    refine ⟨.ref s.heap.objs.size, _, I1, rfl, ⟨_, x, rfl, I.hok.fresh (Nat.le_refl _), rfl, fun ys hy => by rw [I.tuple_inj hy hq]; exact hx⟩, ⟨⟨u', ?_⟩, hit'.at fun o q => (sb.2 it (Ne.symm hne)).trans q, hne, hai, hea⟩, fun b hb => ?_⟩
    · have e1 : ((i + 1 : Nat) : Int) = (i : Int) + 1 := by omega
      rw [e1]; exact he'
    · have hb' : b < s.heap.objs.size := by
        have e' : b = e ∨ b = it := by simpa using hb
        rcases e' with rfl | rfl
        · exact hel
        · exact hil
      rw [upd_ne (Nat.ne_of_lt hb')]; exact (hf b hb).1
  done := by
    intro X hP hw hK hc i pins s σ H E I hf st hg
    subst hP hw hK
    obtain ⟨⟨old, he⟩, hit, hne, hai, hea⟩ := st
    obtain ⟨xs, hq, hx⟩ := hg
    obtain ⟨its, rv, p, hz⟩ := I.tuple hq
    obtain ⟨f0, f1, f2, f3, f4, f5⟩ := hf it (by simp)
    have hl := rv.length
    have hd2 : Draws X.prog X.w X.A.in1 it [it, a] i (fun _ _ => True) (fun j h => h.IsTupleIter it a j ∧ h.IsTuple a its.toArray ∧ j = i) :=
      { live := fun j h st => ⟨st.1.choose, st.1.choose_spec.1⟩
        frame := fun j h h' st k => ⟨st.1.at fun o z => k it (by simp) o z, st.2.1.at fun o z => k a (by simp) o z, st.2.2⟩
        item := fun j s Q E hj st _ => absurd st.2.2 (Nat.ne_of_lt hj)
        done := fun s Q E st hE => wpAny_nextOf_tuple_end (I.ok.hd hc) st.1 st.2.1 (by simp; omega) hE }
    exact wpAny_pyNext_enum_endD hd2 he ⟨hit, p, rfl⟩ fun h' eb => ⟨rfl, I.turned (t' := s.toks) (fun b o hb q => eb b o hb q) f0 f1 f3 f4 f5⟩
  self := fun A i s Q E st h => wpAny_pyIter_enum st.1.choose_spec h
def iEnumT (K : PySem.W.Frag) (ta : TA) : TI := fun σ H R => ta σ H fun vs H1 => ∃ a xs, vs = [.ref a] ∧ SqT K H1 a xs ∧ R (IteT K a) H1
theorem pi_enumT {X : Cx} {e : Expr} {ta : TA} {p pos tpos : Pos} {elts : List Expr} {kk : Nat} (hg : Gl X "enumerate") (hm : X.mg "enumerate" = none) (ha : PA X [e] ta) (hs : starEach [e] X.env = [(false, eval e X.env)] := by rfl) :
    PI X (.Tuple elts kk tpos) (.Call (.Name "enumerate" p) [e] [] pos) (iEnumT X.K ta) := by
  refine ⟨fun pins s σ H R I hh => ?_⟩
  refine Call_ (ld_blt I hg hm boot_enumerate (PyProof.Rows.callWith_type1 (thn (ha.run pos pins s σ H _ I hh) fun us s1 ⟨vs, H1, I1, r1, q1⟩ => ?_) hs rfl))
  obtain ⟨a, xs, ex, hq, q⟩ := q1
  subst ex
  cases r1 with
  | cons r rr =>
    cases rr
    cases r
    obtain ⟨its, rv, p', hz⟩ := I1.tuple hq
    have hla : a < s1.heap.objs.size := p'.lt
    refine enumCallT p' fun h' he hit hsz hk => wpAny_pyIter_enum he ?_
    have I2 : Inv X pins σ H1 { s1 with heap := h' } := I1.kept (t' := s1.toks) hk
    refine ⟨s1.heap.objs.size + 1, [s1.heap.objs.size + 1, s1.heap.objs.size], _, _, H1, rfl, I2, turnEnumT a (s1.heap.objs.size + 1) s1.heap.objs.size, ⟨⟨.none, he⟩, hit, Nat.succ_ne_self _, Nat.ne_of_lt hla, fun z => absurd hla (by rw [← z]; exact Nat.not_lt.mpr (Nat.le_add_right _ _))⟩, fun b hb => ?_, q⟩
    have e' : b = s1.heap.objs.size + 1 ∨ b = s1.heap.objs.size := by simpa using hb
    have hle : s1.heap.objs.size ≤ b := by rcases e' with rfl | rfl; exact Nat.le_add_right _ _; exact Nat.le_refl _
    exact I1.fpOk hle (I1.hok.fresh hle)
/-- over the tuple at a: the pairs come new -/
theorem for_enumT {K : PySem.W.Frag} {a : Addr} {xs : List V} {g : TG} {tb : TS} {D : Ends} {σ : L2.St} {H : Hp} (Pv : Nat → L2.St → Hp → Prop) (h0 : Pv 0 σ H) (hl : ∀ i σ H, i ≤ xs.length → Pv i σ H → SqT K H a xs)
    (hs : ∀ i x σ H T, xs[i]? = some x → Pv i σ H → H T = none → g (.ref T) σ (upd H T (.tup [.int (i : Nat), x])) fun σ2 H2 => tb { D with nx := Pv (i + 1), ct := Pv (i + 1), bk := D.nx } σ2 H2) (hd : ∀ σ H, Pv xs.length σ H → D.nx σ H) :
    ∃ W : Nat → Nat → L2.St → Hp → Prop, (∃ m, W 0 m σ H) ∧ ∀ i m σ H, W i m σ H →
      ((IteT K a).stop i H ∧ D.nx σ H) ∨ ((IteT K a).go i H ∧ ∃ N : L2.St → Hp → Prop, (∀ σ' H', N σ' H' → ∃ m', m' < m ∧ W (i + 1) m' σ' H') ∧ ∀ x H', (IteT K a).yld i H x H' → g x σ H' fun σ2 H2 => tb { D with nx := N, ct := N, bk := D.nx } σ2 H2) := by
  refine ⟨fun i m σ H => m = xs.length - i ∧ i ≤ xs.length ∧ Pv i σ H, ⟨xs.length, by simp, Nat.zero_le _, h0⟩, ?_⟩
  rintro i m σ H ⟨rfl, hi, pv⟩
  have q := hl i σ H hi pv
  by_cases hlt : i < xs.length
  · refine .inr ⟨⟨xs, xs[i], q, by simp [hlt]⟩, Pv (i + 1), fun σ' H' p' => ⟨xs.length - (i + 1), by omega, rfl, hlt, p'⟩, fun v H' y => ?_⟩
    obtain ⟨T, x, rfl, hT, rfl, hx⟩ := y
    exact hs i x σ H T (hx xs q) pv hT
  · have e : i = xs.length := by omega
    subst e; exact .inl ⟨⟨xs, q, Nat.le_refl _⟩, hd σ H pv⟩
structure FnG (P : Program) (w : World) (K : PySem.W.Frag) (mg : Str → Option Value) (base : Heap) (CX : CXT) (k : Nat) (f : Addr) (fd : FuncData) (ps : List Str) (sp : Sp) : Prop where
  len : ∀ vs H Q E, sp vs H Q E → vs.length = ps.length
  go : ∀ (A : Around) (outer : List Env) (s : Shared) (H : Hp) (args : Args) (us : List Value) (vs : List V) (Q : VK) (E : XK), A.guards = some [] → Room k A → Env0 P w K mg base A outer s H →
    BindsTo s fd args (ps.zip us) → Vals vs us → sp vs H Q E → codeAny (model P w) A (.call (.ref f) args) (CR CX outer P w H s Q E) s
section
variable {P : Program} {w : World} {K : PySem.W.Frag} {mg : Str → Option Value} {base : Heap}
theorem okG {x qual : Str} {st : Stmt} {f : Addr} {fd : FuncData} {N ps : List Str} {k : Nat} {sp : Sp} (F : Fun K x qual st f fd) (S : FnScope N ps (defScope st)) (len : ∀ vs H Q E, sp vs H Q E → vs.length = ps.length)
    (hbody : ∀ (cdv : Value) (A : Around) (outer : List Env) (s : Shared) (H : Hp) (vs : List V) (Q : VK) (E : XK), A.guards = some [] → Room k (A.deeper (envOfC qual (defScope st) s.heap.objs.size f cdv)) → sp vs H Q E →
      ∃ t, PSs (cxOf CX0 P w K mg base N qual (defScope st) f cdv A outer s H E).nox (defBody st) t ∧ t { nx := fun _ H' => Q .non H', rt := Q } (start N vs) H) : FnG P w K mg base CX0 (k + 1) f fd ps sp := by
  obtain ⟨oc, od, kV, doc, pm, an, cdv, ct, osl, rfl, lk, hcd⟩ := F.ex
  refine ⟨len, fun A outer s H args us vs Q E hgd hr e0 hb r hsp => ?_⟩
  have hlv := len _ _ _ _ hsp
  have kin := e0.mod.kin.keeps fun b o z => (e0.bs b o z).1
  have lim := e0.mod.nolimit.keeps fun b o z => (e0.bs b o z).1
  have hkd : ∀ y ∈ ps.zip us, (defScope st).names.lookup y.1 = some .local ∨ ((defScope st).names.lookup y.1 = some .cell ∧ ((cellsFrom (s.heap.objs.size + 1) (defScope st).names []).lookup y.1).isSome = true) := by
    rintro ⟨n, v⟩ hy
    exact (S.par n (List.of_mem_zip hy).1).imp id fun z => ⟨z, PySem.W.cellsFrom_some _ _ _ (.inl z)⟩
  refine codeAny_call_function hr.depth (kin _ _ lk) rfl S.co S.gen rfl (PySem.W.codeRec_of kin hcd) (hb _ _ _ _ (wpAny_newFunctionEnv_cells S.kind hkd fun env he s1 ic => ?_))
  subst he
  refine ⟨lim.keeps ic.toInCall.keep, codeAny_func ?_⟩
  obtain ⟨t, ht, hq⟩ := hbody cdv A outer s H vs Q E hgd (hr.deeper _) hsp
  have J0 : Inv (cxOf CX0 P w K mg base N qual (defScope st) f cdv A outer s H E) [] (start N vs) H s1 := inv_start S hr.hd e0 hlv r ic
  refine wpAny_mono (ht.nox.run [] s1 (start N vs) H _ J0 hq) (fun fl s' z => ?_) fun _ _ z => z
  cases fl with
  | ret u => exact let ⟨v, σ', H', J, rv, q⟩ := z; ⟨v, H', J.os, J.bare, J.base, J.hok, rv, q⟩
  | next => exact let ⟨σ', H', J, q⟩ := z; ⟨V.non, H', J.os, J.bare, J.base, J.hok, rfl, q⟩
  | brk => exact let ⟨_, _, _, q⟩ := z; q.elim
  | cont => exact let ⟨_, _, _, q⟩ := z; q.elim
end
section
variable {X : Cx}
end
end LA
namespace LA
open PySem PySem.Spec PyProof.Rows L2
section
variable {X : Cx} {K : PySem.W.Frag}
theorem ixLK (K : PySem.W.Frag) (h : X.K = K := by rfl) : IxR X (rIxL K) := by subst h; exact ix_list
theorem ixTK (K : PySem.W.Frag) (h : X.K = K := by rfl) : IxR X (rIxT K) := by subst h; exact ix_tup
theorem catK (K : PySem.W.Frag) (h : X.K = K := by rfl) : OpR X (binaryOp .Add) (rCatA K) := by subst h; exact op_catA
theorem slTK (K : PySem.W.Frag) (h : X.K = K := by rfl) : SlR X (rSlA K) := by subst h; exact sl_tupA
theorem lenK (K : PySem.W.Frag) (h : X.K = K := by rfl) : CallR X (.builtin "len") (fun xs H Q => ∃ p ys, xs = [.ref p] ∧ (SqL K H p ys ∨ SqT K H p ys) ∧ Q (.int ys.length) H) := by subst h; exact call_len_seq
theorem tupK (K : PySem.W.Frag) (h : X.K = K := by rfl) : CallR X (.type "tuple") (fun xs H Q => ∃ p ys, xs = [.ref p] ∧ ((SqL K H p ys ∧ ∀ l, H l = none → Q (.ref l) (upd H l (.tup ys))) ∨ (SqT K H p ys ∧ Q (.ref p) H))) := by subst h; exact call_tuple_of
theorem lstK (K : PySem.W.Frag) (h : X.K = K := by rfl) : CallR X (.type "list") (fun xs H Q => ∃ p ys, xs = [.ref p] ∧ (SqL K H p ys ∨ SqT K H p ys) ∧ ∀ l, H l = none → Q (.ref l) (upd H l (.lst ys))) := by subst h; exact call_list_of
theorem piLK {tg l : Expr} {tl : TE} (K : PySem.W.Frag) (hl : PE X l tl) (h : X.K = K := by rfl) : PI X tg l (iList K tl) := by subst h; exact pi_list hl
theorem piTK {tg l : Expr} {tl : TE} (K : PySem.W.Frag) (hl : PE X l tl) (h : X.K = K := by rfl) : PI X tg l (iTup K tl) := by subst h; exact pi_tup hl
end
end LA
namespace LA
open PySem PySem.Spec PyProof.Rows L2
theorem catOne {K : PySem.W.Frag} {H : Hp} {a b : Addr} {xs ys : List V} {Q : VK} (h1 : SqT K H a xs) (h2 : SqT K H b ys) (hl : xs.length + ys.length ≤ sizeLine)
    (k : ∀ (H' : Hp) (q : Addr), Same H H' → SqT K H' q (xs ++ ys) → Q (.ref q) H') : rCatA K (.ref a) (.ref b) H Q := by
  refine ⟨a, b, xs, ys, rfl, rfl, h1, h2, hl, fun e => ?_, fun _ e => ?_, fun _ _ p hp => ?_⟩
  · subst e; exact k H b (Same.refl H) h2
  · subst e; exact k H a (Same.refl H) (by simpa using h1)
  · exact k _ p ((Same.refl H).new hp) (SqT.of upd_same)
theorem cut_whole {xs : List V} {lo hi : Option Int} (h : HT.sIx xs.length 0 lo = 0 ∧ HT.sIx xs.length xs.length hi = xs.length) : cutV xs lo hi = xs := by
  unfold cutV; rw [h.1, h.2]; simp
theorem slOne {K : PySem.W.Frag} {H : Hp} {a : Addr} {xs : List V} {lo hi : Option Int} {Q : VK} (h1 : SqT K H a xs)
    (k : ∀ (H' : Hp) (q : Addr), Same H H' → SqT K H' q (cutV xs lo hi) → Q (.ref q) H') : rSlA K (.ref a) lo hi H Q := by
  refine ⟨a, xs, rfl, h1, fun e => ?_, fun _ p hp => ?_⟩
  · exact k H a (Same.refl H) (by rw [cut_whole e]; exact h1)
  · exact k _ p ((Same.refl H).new hp) (SqT.of upd_same)
/-- t[k:] -/
theorem cut_from {xs : List V} {k : Nat} (h : k ≤ xs.length) : cutV xs (some (k : Int)) none = xs.drop k := by
  unfold cutV HT.sIx
  simp
  rw [if_neg (by omega), List.take_of_length_le (by simp), Nat.min_eq_left h]
def nD (x : Nat) : PyData := .int (x : Int)
def wD (w : List Nat) : PyData := .tuple (w.map nD)
theorem dp_nats {K : PySem.W.Frag} {H : Hp} : ∀ w : List Nat, DpAll K H (w.map nV) (w.map nD)
  | [] => .nil
  | n :: ns => .cons (.int _) (dp_nats ns)
theorem WordAt.dp {K : PySem.W.Frag} {H : Hp} {v : V} {w : List Nat} (h : WordAt K H v w) : Dp K H v (wD w) := by
  obtain ⟨a, rfl, q⟩ := h
  exact .tup q (dp_nats w)
theorem nats_lay : ∀ ns : List Nat, PyData.canLayAll0 (ns.map nD) = true ∧ PyData.depthAll (ns.map nD) = 0
  | [] => by simp [PyData.canLayAll0, PyData.depthAll]
  | n :: ns => by have h := nats_lay ns; simp [nD, PyData.canLayAll0, PyData.canLay0, PyData.depthAll, PyData.depth, h.1, h.2]
theorem wD_lay (w : List Nat) : (wD w).canLay0 = true ∧ (wD w).depth = 1 := by
  have h := nats_lay w
  simp [wD, PyData.canLay0, PyData.depth, h.1, h.2]
theorem wD_shaped (w : List Nat) : SeqAt.shaped (wD w) = true := by
  have h := wD_lay w
  show ((wD w).canLay0 && decide ((wD w).depth ≤ 64)) = true
  rw [h.1, h.2]; decide
theorem nats_eqv : ∀ u w : List Nat, PyData.eqvAll (u.map nD) (w.map nD) = decide (u = w)
  | [], [] => by simp [PyData.eqvAll]
  | [], _ :: _ => by simp [PyData.eqvAll]
  | _ :: _, [] => by simp [PyData.eqvAll]
  | a :: u, b :: w => by
    have h := nats_eqv u w
    rw [List.map_cons, List.map_cons, PyData.eqvAll, h]; unfold nD; rw [PyData.eqv]
    by_cases e : a = b
    · subst e; simp
    · simp [e]; intro z; omega
theorem wD_eqv (u w : List Nat) : PyData.eqv (wD u) (wD w) = decide (u = w) := by
  simp only [wD, PyData.eqv]; exact nats_eqv u w
def ixOf (ws : List (List Nat)) (w : List Nat) : Nat := ws.findIdx fun u => decide (u = w)
end LA

set_option maxHeartbeats 4000000
namespace LA
open PySem PySem.Spec PyProof.Rows L2
/-- what the law's call comes to, from the promise of its def -/
theorem lawG {P : Program} {w : World} {K : PySem.W.Frag} {mg mb : Str → Option Value} {k : Nat} {fa a : Addr} {fd : FuncData} {x : Str} {sp : Sp} {s1 : Shared} {vs : List Value} {ns : List Int}
    (kin : K.In s1.heap) (hns : s1.heap.Ns mainGlobals mg) (hbn : s1.heap.Ns builtinsNs mb) (hbb : ∀ x : Str, x ≠ "__name__" → mb x = bootBuiltins x) (hlim : s1.heap.NoLimit) (hgn : s1.gens = #[])
    (hobj : s1.heap.get? a = some { cls := .type "list", data := .seq vs.toArray }) (hi : IntsAre vs ns) (hl : ns.length ≤ sizeLine) (hr : Room k callerA)
    (F : ∀ base : Heap, K.In base → base.Ns mainGlobals mg → FnG P w K mg base CX0 k fa fd [x] sp) (hbind : ∀ (s : Shared) (u : Value), BindsTo s fd ⟨[u], []⟩ [(x, u)])
    (hsp : ∀ H : Hp, Only H → SqL K H a (ns.map V.int) → sp [.ref a] H (fun v _ => v = .bl true) fun _ _ _ => False) :
    codeAny (model P w) callerA (.call (.ref fa) ⟨[.ref a], []⟩) (fun r s' => r = .ok (.ret (.bool true)) ∧ OldK s1.heap s'.heap ∧ s'.os = s1.os ∧ AllBare s'.gens) s1 := by
  have rv := vals_ints hi
  have lv := hi.length
  have core : ∀ H : Hp, Only H → SqL K H a (ns.map V.int) → HOk P w H s1.heap → (∀ b u, H b = some u → b = a) → (∀ u, H a = some u → K.lookup a = none) →
      codeAny (model P w) callerA (.call (.ref fa) ⟨[.ref a], []⟩) (fun r s' => r = .ok (.ret (.bool true)) ∧ OldK s1.heap s'.heap ∧ s'.os = s1.os ∧ AllBare s'.gens) s1 := by
    intro H hO hS hok hA hK
    have up : ∀ {b : Addr} {o : Obj}, s1.heap.get? b = some o → H b = none → (hidT s1.heap H).get? b = some o := fun e n => hidT_get e n
    have nsU : ∀ {b : Addr} {m : Str → Option Value}, s1.heap.Ns b m → (hidT s1.heap H).Ns b m := by
      rintro b m ⟨o, es, ep, e, d, r⟩
      refine ⟨o, es, ep, up e ?_, d, r⟩
      cases z : H b with
      | none => rfl
      | some u =>
        obtain rfl := hA b u z
        rw [hobj] at e; cases e
        have d' : Data.seq vs.toArray _ = Data.dict es ep := d
        cases d'
    have kinH : K.In (hidT s1.heap H) := fun b o e => up (kin b o e) (by
      cases z : H b with
      | none => rfl
      | some u =>
        obtain rfl := hA b u z
        rw [hK u z] at e; cases e)
    have md : Mod K mg (hidT s1.heap H) := ⟨kinH, nsU hns, ⟨mb, nsU hbn, hbb⟩, hlim.elim fun mc z => ⟨mc, nsU z.1, z.2⟩⟩
    have ev : Env0 P w K mg (hidT s1.heap H) callerA [] s1 H := ⟨rfl, md, fun b o e => of_hidT e, Nat.le_of_eq (hidT_size _ _), trivial, fun b hb => (List.not_mem_nil hb).elim, hok, .of_eq hgn⟩
    refine codeAny_mono ((F _ kinH (nsU hns)).go callerA [] s1 H ⟨[.ref a], []⟩ [.ref a] [.ref a] _ _ rfl hr ev (hbind s1 (.ref a)) (.cons rfl .nil) (hsp H hO hS)) fun r s' z => ?_
    cases r with
    | error e => exact z.elim
    | ok fl =>
      cases fl with
      | next => exact z.elim
      | brk => exact z.elim
      | cont => exact z.elim
      | ret u =>
        obtain ⟨v, H', os, bare, un, hok', r', q⟩ := z
        obtain rfl : v = .bl true := q
        obtain rfl : u = Value.bool true := r'
        refine ⟨rfl, OldK.of_keep fun b o e => ?_, os, bare⟩
        cases zb : H b with
        | none => exact un.keep b o e zb (fun z => (List.not_mem_nil z).elim) (fun z => (List.not_mem_nil z).elim)
        | some u =>
          rcases hO b with z | ⟨ob, xs, z⟩
          · rw [zb] at z; cases z
          · obtain ⟨e1, _⟩ := hok b _ z
            obtain ⟨e2, _⟩ := hok' b _ (un.frzs b ob _ z)
            rw [e] at e1; cases e1; exact e2
  cases hk : K.lookup a with
  | some o =>
    have e := kin a o hk
    rw [hobj] at e; cases e
    exact core (fun _ => none) (fun _ => .inl rfl) (.inr ⟨_, vs.toArray, _, hk, rfl, rfl, rfl, by rw [List.size_toArray, lv]; exact hl, by simpa using rv⟩) (fun b u z => nomatch (show (none : Option HO) = some u from z)) (fun b u z => nomatch (show (none : Option HO) = some u from z)) fun u z => nomatch (show (none : Option HO) = some u from z)
  | none =>
    let o0 : Obj := { cls := .type "list", data := .seq vs.toArray }
    refine core (fun b => if b = a then some (.frz o0 (.lst (ns.map V.int))) else none) (fun b => ?_) (.inl (.inr ⟨o0, if_pos rfl⟩)) (fun b u z => ?_) (fun b u z => ?_) fun _ _ => hk
    · by_cases hb : b = a
      · exact .inr ⟨_, _, if_pos hb⟩
      · exact .inl (if_neg hb)
    · by_cases hb : b = a
      · have z' := (if_pos hb).symm.trans z
        cases z'; subst hb
        exact ⟨hobj, by rw [List.length_map]; exact hl, vs, _, rv, hobj⟩
      · exact nomatch (if_neg hb).symm.trans z
    · by_cases hb : b = a
      · exact hb
      · exact nomatch (if_neg hb).symm.trans z
theorem walkG {l : PySem.W.OpenLaw} {n k : Nat} {q : Program} {loose : List Str} {XP : (Str → Option Value) → Heap → Prop} {YP : World → Heap → Prop} {d : DefRec} {K : Params → PySem.W.Frag} {sp : PySem.W.Frag → Sp} {x : Str}
    (hn : l.most = some n) (hn2 : n ≤ sizeLine) (hdf : d.params.defaults = []) (hr : Room k callerA) (hY : ∀ (w : World) (h : Heap), YP w h → (K w.params).In h)
    (F : ∀ (w : World) (mg : Str → Option Value) (fa : Addr) (h : Heap), (K w.params).In h → h.Ns mainGlobals mg → mg d.name = some (.ref fa) →
      ∃ fd : FuncData, (∀ (s : Shared) (u : Value), BindsTo s fd ⟨[u], []⟩ [(x, u)]) ∧ ∀ base : Heap, (K w.params).In base → base.Ns mainGlobals mg → FnG l.prog w (K w.params) mg base CX0 k fa fd [x] (sp (K w.params)))
    (hsp : ∀ (K : PySem.W.Frag) (H : Hp) (a : Addr) (ns : List Int), ns.length ≤ n → SqL K H a (ns.map V.int) → sp K [.ref a] H (fun v _ => v = .bl true) fun _ _ _ => False) :
    PySem.W.WalkO q loose XP YP l.row.toRowW d [] (fun f vs => PySem.call f vs) := by
  refine Att.attach_call hn hdf fun w s₀ s₁ mg mb fa o pm cd doc a vs ns G Y ho hd hcd hmg hobj hints hlen hgn => ?_
  obtain ⟨fd, hb, hF⟩ := F w mg fa _ (hY w _ Y) G.T.g hmg
  exact lawG (hY w _ Y) G.T.g G.T.b G.T.builtins G.T.nolimit hgn hobj hints (Nat.le_trans hlen hn2) hr hF hb fun H _ hS => hsp (K w.params) H a ns hlen hS
/-- the promise of every law's own def -/
def spLaw (K : PySem.W.Frag) : Sp := fun vs H Q _ => ∃ (a : Addr) (ns : List Int), vs = [.ref a] ∧ SqL K H a (ns.map V.int) ∧ ns.length ≤ 63 ∧ ∀ H', Q (.bl true) H'
end LA

set_option maxHeartbeats 4000000
namespace LA
open PySem L2
def later (F : Nat) (w : List Nat) (y : Nat) : List Nat := (w ++ [y]).drop (if w.length = F then 1 else 0)
def furE (L F : Nat) (w : List Nat) (x y : Nat) : Option Nat := if w.length < F ∨ (w ++ [y]).head? = some x then some (ixOf (plcs L F) (later F w y)) else none
def furR (L F : Nat) (w : List Nat) (x : Nat) : Rw := (List.range L).map (furE L F w x)
def furS (L F : Nat) (w : List Nat) : Sd := (List.range L).map (furR L F w)
def furJ (L F : Nat) : Jd := (plcs L F).map (furS L F)
end LA

set_option maxHeartbeats 4000000
namespace LA
open PySem L2
def okE (n : Nat) : Option Nat → Bool
  | none => true
  | some m => decide (m < n)
def isJb (j : Jd) (nx ny : Nat) : Bool :=
  decide (1 ≤ j.length) && decide (j.length ≤ 8) && decide (1 ≤ nx) && decide (nx ≤ 4) && decide (1 ≤ ny) && decide (ny ≤ 4) && j.all fun s => decide (s.length = nx) && s.all fun r => decide (r.length = ny) && r.all (okE j.length)
theorem isJb_is {j : Jd} {nx ny : Nat} (h : isJb j nx ny = true) : IsJ j nx ny := by
  unfold isJb at h
  simp only [Bool.and_eq_true, decide_eq_true_eq, List.all_eq_true] at h
  obtain ⟨⟨⟨⟨⟨⟨h1, h2⟩, h3⟩, h4⟩, h5⟩, h6⟩, h7⟩ := h
  refine ⟨h1, h2, h3, h4, h5, h6, fun s hs => ⟨(h7 s hs).1, fun r hr => ⟨((h7 s hs).2 r hr).1, fun m hm => ?_⟩⟩⟩
  have := ((h7 s hs).2 r hr).2 _ hm
  simpa [okE] using this
def parF (ph x y : Nat) : Option Nat := if 1 < ph then some (1 + (x + y) % 2) else if (x + y) % 2 = 0 then some 0 else none
def parA (ph phase rest x : Nat) : Option Nat := if phase + 1 < ph then some (1 + 2 * phase + (rest + x) % 2) else if (rest + x) % 2 = 0 then some 0 else none
def parR0 (ph x : Nat) : Rw := (List.range 2).map (parF ph x)
def parR (ph phase rest x : Nat) : Rw := [parA ph phase rest x, parA ph phase rest x]
def parS (ph phase rest : Nat) : Sd := (List.range 2).map (parR ph phase rest)
def parJ (ph : Nat) : Jd := (List.range 2).map (parR0 ph) :: (List.range (ph - 1)).flatMap fun p => (List.range 2).map (parS ph (p + 1))
def endJ : Jd := [[[some 1, some 2], [some 0, none], [none, some 0]], [[some 1, some 1], [some 0, some 0], [none, none]], [[some 2, some 2], [none, none], [some 0, some 0]]]
theorem endJ_is : IsJ endJ 3 2 := isJb_is (by decide)
def spEndless (K : PySem.W.Frag) : Sp := fun vs H Q _ => vs = [] ∧ ∀ (H' : Hp) (v : V), Same H H' → JAt K H' v endJ → Q v H'
end LA
namespace LA
open PySem L2
def noS : Stmt := .Pass ⟨0, 0, 0, 0⟩
def noE : Expr := .Constant .none 0 ⟨0, 0, 0, 0⟩
def lcS : Expr → Scope
  | .ListComp _ _ sc _ => sc
  | _ => { kind := .function, names := [], isGenerator := false, isCoroutine := false }
def asgV : Stmt → Expr
  | .Assign _ v _ => v
  | .Return (some v) _ => v
  | .Expr v _ => v
  | _ => noE
def arg0 : Expr → Expr
  | .Call _ (a :: _) _ _ => a
  | _ => noE
structure Grid (H : Hp) (fl : Addr) (n nx ny : Nat) (S : Nat → Addr) (A : Nat → Nat → Addr) (c : Nat → Nat → Rw) : Prop where
  top : H fl = some (.lst ((List.range n).map fun a => V.ref (S a)))
  st : ∀ a, a < n → H (S a) = some (.lst ((List.range nx).map fun b => V.ref (A a b)))
  rw : ∀ a b, a < n → b < nx → H (A a b) = some (.lst ((c a b).map oV))
  inj : ∀ a b a' b', a < n → b < nx → a' < n → b' < nx → A a b = A a' b' → a = a' ∧ b = b'
  nS : ∀ a b a', a < n → b < nx → a' < n → A a b ≠ S a'
  nF : ∀ a b, a < n → b < nx → A a b ≠ fl
  ok : ∀ a b, a < n → b < nx → (c a b).length = ny ∧ ∀ m, some m ∈ c a b → m < n
section
variable {H H' : Hp} {fl : Addr} {n nx ny : Nat} {S : Nat → Addr} {A : Nat → Nat → Addr} {c : Nat → Nat → Rw}
theorem Grid.same (g : Grid H fl n nx ny S A c) (s : Same H H') : Grid H' fl n nx ny S A c :=
  ⟨s _ _ g.top, fun a h => s _ _ (g.st a h), fun a b h h' => s _ _ (g.rw a b h h'), g.inj, g.nS, g.nF, g.ok⟩
theorem Grid.put (g : Grid H fl n nx ny S A c) {a b k : Nat} {o : Option Nat} (ha : a < n) (hb : b < nx) (hk : k < ny) (ho : ∀ m, o = some m → m < n) :
    Grid (upd H (A a b) (.lst (((c a b).map oV).set k (oV o)))) fl n nx ny S A (fun a' b' => if a' = a ∧ b' = b then (c a b).set k o else c a' b') := by
  refine ⟨?_, fun a' h => ?_, fun a' b' h h' => ?_, g.inj, g.nS, g.nF, fun a' b' h h' => ?_⟩
  · rw [upd_ne (Ne.symm (g.nF a b ha hb))]; exact g.top
  · rw [upd_ne (Ne.symm (g.nS a b a' ha hb h))]; exact g.st a' h
  · by_cases e : a' = a ∧ b' = b
    · rw [if_pos e, e.1, e.2, upd_same, List.map_set]
    · rw [if_neg e, upd_ne (fun z => e (g.inj a' b' a b h h' ha hb z))]; exact g.rw a' b' h h'
  · by_cases e : a' = a ∧ b' = b
    · rw [if_pos e]
      refine ⟨by rw [List.length_set]; exact (g.ok a b ha hb).1, fun m hm => ?_⟩
      rcases List.mem_or_eq_of_mem_set hm with z | z
      · exact (g.ok a b ha hb).2 m z
      · exact ho m z.symm
    · rw [if_neg e]; exact g.ok a' b' h h'
end
end LA
namespace LA
open PySem L2
theorem range_ext {α : Type} {f f' : Nat → α} {m : Nat} {x : α} (h : ∀ i, i < m → f' i = f i) (hx : f' m = x) : (List.range (m + 1)).map f' = (List.range m).map f ++ [x] := by
  rw [List.range_succ, List.map_append]
  congr 1
  · exact List.map_congr_left fun i hi => h i (List.mem_range.mp hi)
  · simp [hx]
theorem at_range {α : Type} {f : Nat → α} {n i : Nat} (h : i < n) : ((List.range n).map f)[i]? = some (f i) := by
  simp [h]
end LA
namespace LA
open PySem L2
def LeastV (v : V) : Prop := v = .non ∨ ∃ k : Nat, v = .int (k : Int) ∧ k ≤ 3
def PairAt (K : PySem.W.Frag) (H : Hp) (v : V) : Prop := ∃ (t : Addr) (vj ls : V) (j : Jd) (nx ny : Nat), v = .ref t ∧ SqT K H t [vj, ls] ∧ JAt K H vj j ∧ IsJ j nx ny ∧ nx ≤ 3 ∧ ny ≤ 3 ∧ LeastV ls
theorem PairAt.t {K : PySem.W.Frag} {H H' : Hp} {v : V} (h : PairAt K H v) (s : SameT H H') : PairAt K H' v := by
  obtain ⟨t, vj, ls, j, nx, ny, e, q, hj, r⟩ := h
  exact ⟨t, vj, ls, j, nx, ny, e, s.seq q, hj.t s, r⟩
theorem c1 (r : Nat) : V.int (1 + (r : Int)) = V.int ((1 + r : Nat) : Int) := by congr 1
end LA

set_option maxHeartbeats 4000000
namespace LA
open PySem PySem.Spec PyProof.Rows L2
section
variable {P : Program} {w : World} {A : Around} {E : Value → Shared → Prop}
end
theorem nodup_le : ∀ (B : Nat) (l : List Int), l.Nodup → (∀ x ∈ l, 0 ≤ x ∧ x < B) → l.length ≤ B
  | 0, l, _, h => by
    cases l with
    | nil => simp
    | cons a l => have := h a List.mem_cons_self; omega
  | B + 1, l, hn, h => by
    have ih := nodup_le B (l.erase (B : Int)) (hn.erase _) fun x hx => by
      have h1 := h x (List.mem_of_mem_erase hx)
      have h2 : x ≠ (B : Int) := fun e => by rw [e] at hx; exact (hn.not_mem_erase hx)
      omega
    have := List.length_erase_le (a := (B : Int)) (l := l)
    have h3 : l.length ≤ (l.erase (B : Int)).length + 1 := by
      rw [List.length_erase]; split <;> omega
    omega
end LA

set_option maxHeartbeats 4000000
namespace LA
open PySem L2
def sucs (j : Jd) (s : Nat) : List Nat := (j[s]?.getD []).flatMap fun r => r.filterMap id
def Fr (j : Jd) : Nat → Nat → Prop
  | 0, t => t = 0
  | k + 1, t => Fr j k t ∨ ∃ s, Fr j k s ∧ t ∈ sucs j s
def Rch (j : Jd) (t : Nat) : Prop := ∃ k, Fr j k t
theorem Fr.mono {j : Jd} {t : Nat} : ∀ {k m : Nat}, k ≤ m → Fr j k t → Fr j m t
  | k, m, h, f => by
    induction m with
    | zero => have : k = 0 := by omega
              subst this; exact f
    | succ m ih =>
      by_cases e : k = m + 1
      · subst e; exact f
      · exact .inl (ih (by omega))
theorem Rch.step {j : Jd} {s t : Nat} (h : Rch j s) (ht : t ∈ sucs j s) : Rch j t := let ⟨k, f⟩ := h; ⟨k + 1, .inr ⟨s, f, ht⟩⟩
theorem sucs_lt {j : Jd} {nx ny s t : Nat} (ij : IsJ j nx ny) (h : t ∈ sucs j s) : t < j.length := by
  unfold sucs at h
  cases e : j[s]? with
  | none => rw [e] at h; simp at h
  | some sd =>
    rw [e] at h
    simp only [Option.getD_some, List.mem_flatMap, List.mem_filterMap] at h
    obtain ⟨r, hr, o, ho, rfl⟩ := h
    exact ((ij.st sd (List.mem_of_getElem? e)).2 r hr).2 t ho
theorem Fr.lt {j : Jd} {nx ny : Nat} (ij : IsJ j nx ny) : ∀ {k t : Nat}, Fr j k t → t < j.length
  | 0, t, h => by have : t = 0 := h; subst this; exact ij.n1
  | k + 1, t, h => by
    rcases h with h | ⟨s, _, h⟩
    · exact Fr.lt ij h
    · exact sucs_lt ij h
/-- n rounds are enough -/
theorem Fr.all {j : Jd} {nx ny t : Nat} (ij : IsJ j nx ny) (h : Rch j t) : Fr j j.length t := by
  have dec : ∀ k t, Decidable (Fr j k t) := fun k t => Classical.propDecidable _
  let c : Nat → Nat := fun k => ((List.range j.length).filter fun t => @decide (Fr j k t) (dec k t)).length
  have hc : ∀ k, c k ≤ j.length := fun k => by
    have := List.length_filter_le (fun t => @decide (Fr j k t) (dec k t)) (List.range j.length)
    rw [List.length_range] at this; exact this
  have stable : ∀ k, (∀ t, Fr j (k + 1) t → Fr j k t) → ∀ m t, Fr j m t → Fr j k t := by
    intro k hk m
    induction m with
    | zero => intro t ht; exact Fr.mono (Nat.zero_le _) ht
    | succ m ih =>
      intro t ht
      rcases ht with ht | ⟨s, hs, ht⟩
      · exact ih t ht
      · exact hk t (.inr ⟨s, ih s hs, ht⟩)
  have grow : ∀ k, (¬ ∀ t, Fr j (k + 1) t → Fr j k t) → c k + 1 ≤ c (k + 1) := by
    intro k hk
    have ⟨t, ht⟩ := Classical.not_forall.mp hk
    have ⟨h1, h2⟩ := Classical.not_imp.mp ht
    have sub : ((List.range j.length).filter fun t => @decide (Fr j k t) (dec k t)) = ((List.range j.length).filter fun t => @decide (Fr j (k + 1) t) (dec (k + 1) t)).filter fun t => @decide (Fr j k t) (dec k t) := by
      rw [List.filter_filter]
      refine List.filter_congr fun x _ => ?_
      by_cases hx : Fr j k x
      · have hx2 : Fr j (k + 1) x := .inl hx
        simp [hx, hx2]
      · simp [hx]
    show ((List.range j.length).filter fun t => @decide (Fr j k t) (dec k t)).length + 1 ≤ _
    rw [sub]
    refine Nat.succ_le_of_lt ?_
    refine List.length_filter_lt_length_iff_exists.mpr ⟨t, ?_, by simp [h2]⟩
    simp only [List.mem_filter, List.mem_range]
    exact ⟨Fr.lt ij h1, by simp [h1]⟩
  have key : ∃ k, k ≤ j.length ∧ ∀ t, Fr j (k + 1) t → Fr j k t := by
    refine Classical.byContradiction fun hno => ?_
    have all : ∀ k, k ≤ j.length → k ≤ c k := by
      intro k
      induction k with
      | zero => intro _; exact Nat.zero_le _
      | succ k ih =>
        intro hk
        have := grow k fun z => hno ⟨k, by omega, z⟩
        have := ih (by omega)
        omega
    have h1 := all j.length (Nat.le_refl _)
    have h2 := grow j.length fun z => hno ⟨_, Nat.le_refl _, z⟩
    have h3 := hc (j.length + 1)
    omega
  obtain ⟨k, hk, hs⟩ := key
  obtain ⟨m, hm⟩ := h
  exact Fr.mono hk (stable k hs m t hm)
/-- two strictly ascending lists with the same members are one -/
theorem asc_eq : ∀ {l m : List Int}, l.Pairwise (· < ·) → m.Pairwise (· < ·) → (∀ x, x ∈ l ↔ x ∈ m) → l = m
  | [], [], _, _, _ => rfl
  | [], b :: m, _, _, h => absurd ((h b).mpr List.mem_cons_self) (by simp)
  | a :: l, [], _, _, h => absurd ((h a).mp List.mem_cons_self) (by simp)
  | a :: l, b :: m, hl, hm, h => by
    have hl' := List.pairwise_cons.mp hl
    have hm' := List.pairwise_cons.mp hm
    have e : a = b := by
      have h1 := (h a).mp List.mem_cons_self
      have h2 := (h b).mpr List.mem_cons_self
      rcases List.mem_cons.mp h1 with e | h1
      · exact e
      · rcases List.mem_cons.mp h2 with e | h2
        · exact e.symm
        · have := hl'.1 b h2; have := hm'.1 a h1; omega
    subst e
    congr 1
    refine asc_eq hl'.2 hm'.2 fun x => ⟨fun hx => ?_, fun hx => ?_⟩
    · rcases List.mem_cons.mp ((h x).mp (List.mem_cons_of_mem _ hx)) with e | q
      · subst e; have := hl'.1 x hx; omega
      · exact q
    · rcases List.mem_cons.mp ((h x).mpr (List.mem_cons_of_mem _ hx)) with e | q
      · subst e; have := hm'.1 x hx; omega
      · exact q
def nI (x : Nat) : Int := (x : Int)
structure Good (j : Jd) (rs : List Nat) : Prop where
  nd : rs.Nodup
  lt : ∀ t ∈ rs, t < j.length
  rc : ∀ t ∈ rs, Rch j t
  z : 0 ∈ rs
theorem Good.len {j : Jd} {rs : List Nat} (g : Good j rs) : rs.length ≤ j.length := by
  have := nodup_le j.length (rs.map nI) ?_ ?_
  · simpa using this
  · exact List.Pairwise.map _ (fun a b hab => by unfold nI; omega) g.nd
  · intro x hx
    simp only [List.mem_map] at hx
    obtain ⟨t, ht, rfl⟩ := hx
    have := g.lt t ht
    unfold nI; omega
theorem Good.snoc {j : Jd} {rs : List Nat} {t : Nat} (g : Good j rs) (h : t ∉ rs) (hl : t < j.length) (hr : Rch j t) : Good j (rs ++ [t]) := by
  refine ⟨?_, fun x hx => ?_, fun x hx => ?_, List.mem_append_left _ g.z⟩
  · rw [List.nodup_append]
    exact ⟨g.nd, by simp, fun a ha b hb => by simp at hb; subst hb; intro e; subst e; exact h ha⟩
  · rcases List.mem_append.mp hx with q | q
    · exact g.lt x q
    · simp at q; subst q; exact hl
  · rcases List.mem_append.mp hx with q | q
    · exact g.rc x q
    · simp at q; subst q; exact hr
theorem Good.closed {j : Jd} {rs : List Nat} (g : Good j rs) (h : ∀ s ∈ rs, ∀ t ∈ sucs j s, t ∈ rs) : ∀ t, Rch j t → t ∈ rs := by
  rintro t ⟨k, f⟩
  induction k generalizing t with
  | zero => have : t = 0 := f; subst this; exact g.z
  | succ k ih =>
    rcases f with f | ⟨s, f, q⟩
    · exact ih t f
    · exact h s (ih s f) t q
end LA

set_option maxHeartbeats 4000000
namespace LA
open PySem L2
mutual
def szD : PyData → Nat
  | .none => 4
  | .bool _ => 5
  | .int i => i.natAbs.log2 + 2
  | .str x => (reprText x).length
  | .list xs => szAll xs + 3
  | .tuple xs => szAll xs + 3
  | .dict kvs => szKv kvs + 3
def szAll : List PyData → Nat
  | [] => 0
  | x :: xs => szD x + 2 + szAll xs
def szKv : List (PyData × PyData) → Nat
  | [] => 0
  | (k, v) :: r => szD k + szD v + 4 + szKv r
end
theorem textFrom_le : ∀ (ts : List Str) (k : Nat) (acc : Str), (textFrom k acc ts).length ≤ acc.length + piled ts
  | [], k, acc => by simp [textFrom, piled]
  | t :: ts, k, acc => by
    have ih := textFrom_le ts (k + 1) (acc ++ (if k > 0 then ", " else "" : String) ++ t)
    have e : ((acc ++ (if k > 0 then ", " else "" : String) ++ t : Str)).length ≤ acc.length + 2 + t.length := by
      rw [strLen_append, strLen_append]
      have : ((if k > 0 then ", " else "" : String) : Str).length ≤ 2 := by split <;> decide
      omega
    show (textFrom (k + 1) _ ts).length ≤ _
    rw [piled_cons]; omega
theorem join_le (ts : List Str) : (Str.join ", " ts).length ≤ piled ts := by
  by_cases h : ts = []
  · subst h; decide
  · have := join_length_add ts h; omega
theorem listText_le (ts : List Str) : (listText ts).length ≤ piled ts + 3 := by
  have h := textFrom_le ts 0 "["
  show (textFrom 0 "[" ts ++ "]").length ≤ _
  rw [strLen_append]
  have e1 : (("[" : String) : Str).length = 1 := rfl
  have e2 : (("]" : String) : Str).length = 1 := rfl
  omega
theorem tupleText_le (ts : List Str) : (tupleText ts).length ≤ piled ts + 3 := by
  unfold tupleText
  rw [strLen_append, strLen_append]
  have h := join_le ts
  have e1 : (("(" : String) : Str).length = 1 := rfl
  have e2 : ((if ts.length == 1 then ",)" else ")" : String) : Str).length ≤ 2 := by split <;> decide
  omega
theorem dictText_le (ts : List Str) : (dictText ts).length ≤ piled ts + 3 := by
  unfold dictText
  rw [strLen_append, strLen_append]
  have h := join_le ts
  have e1 : (("{" : String) : Str).length = 1 := rfl
  have e2 : (("}" : String) : Str).length = 1 := rfl
  omega
mutual
theorem shown_le : ∀ d : PyData, d.shown.length ≤ szD d
  | .none => by simp only [PyData.shown, szD]; decide
  | .bool b => by cases b <;> simp only [PyData.shown, szD] <;> decide
  | .int i => by
    simp only [PyData.shown, szD]
    have := int_text_length_le (a := i) (k := i.natAbs.log2 + 1) (by omega) (by omega)
    rw [ofString_length]; exact this
  | .str x => by simp only [PyData.shown, szD]; exact Nat.le_refl _
  | .list xs => by
    simp only [PyData.shown, szD]
    exact Nat.le_trans (listText_le _) (Nat.add_le_add_right (shownAll_le xs) 3)
  | .tuple xs => by
    simp only [PyData.shown, szD]
    exact Nat.le_trans (tupleText_le _) (Nat.add_le_add_right (shownAll_le xs) 3)
  | .dict kvs => by
    simp only [PyData.shown, szD]
    exact Nat.le_trans (dictText_le _) (Nat.add_le_add_right (shownKv_le kvs) 3)
theorem shownAll_le : ∀ xs : List PyData, piled (PyData.shownAll xs) ≤ szAll xs
  | [] => by simp [PyData.shownAll, szAll, piled]
  | x :: xs => by
    have h1 := shown_le x; have h2 := shownAll_le xs
    simp only [PyData.shownAll, szAll, piled_cons]; omega
theorem shownKv_le : ∀ kvs : List (PyData × PyData), piled (PyData.shownKv kvs) ≤ szKv kvs
  | [] => by simp [PyData.shownKv, szKv, piled]
  | (k, v) :: r => by
    have h1 := shown_le k; have h2 := shown_le v; have h3 := shownKv_le r
    simp only [PyData.shownKv, szKv, piled_cons, strLen_append]
    have e : ((": " : String) : Str).length = 2 := rfl
    omega
end
end LA
namespace LA
open PySem L2
end LA

set_option maxHeartbeats 4000000
namespace LA
open PySem PySem.Spec PyProof.Rows L2
/-- neither the pot nor one of Z -/
def Out (p : Addr) (Z : Addr → Prop) (a : Addr) : Prop := a ≠ p ∧ ¬ Z a
/-- all of Z are held -/
def Trk (Z : Addr → Prop) (H : Hp) : Prop := ∀ b, Z b → H b ≠ none
theorem Trk.same {Z : Addr → Prop} {H H' : Hp} (h : Trk Z H) (s : Same H H') : Trk Z H' := fun b hb e => by
  cases q : H b with
  | none => exact h b hb q
  | some o => rw [s b o q] at e; cases e
theorem Trk.x {Z : Addr → Prop} {H H' : Hp} {p : Addr} {n : Nat} (h : Trk Z H) (s : SameX p H H') (P : PotAt H' p n) : Trk Z H' := fun b hb e => by
  cases q : H b with
  | none => exact h b hb q
  | some o =>
    by_cases hp : b = p
    · obtain ⟨ys, hy⟩ := P.lst; rw [hp, hy] at e; cases e
    · rw [s b o q hp] at e; cases e
mutual
inductive Dq (K : PySem.W.Frag) (p : Addr) (Z : Addr → Prop) (H : Hp) : V → PyData → Prop
  | non : Dq K p Z H .non .none
  | bl (b : Bool) : Dq K p Z H (.bl b) (.bool b)
  | int (i : Int) : Dq K p Z H (.int i) (.int i)
  | str (x : Str) : Dq K p Z H (.str x) (.str x)
  | lst {a : Addr} {xs : List V} {ds : List PyData} : Out p Z a → SqL K H a xs → DqAll K p Z H xs ds → Dq K p Z H (.ref a) (.list ds)
  | tup {a : Addr} {xs : List V} {ds : List PyData} : SqT K H a xs → DqAll K p Z H xs ds → Dq K p Z H (.ref a) (.tuple ds)
  | dic0 {a : Addr} : Out p Z a → H a = some (.dK []) → Dq K p Z H (.ref a) (.dict [])
  | dic1 {a : Addr} {v : V} {d : PyData} : Out p Z a → H a = some (.dK [(.inl 0, v)]) → Dq K p Z H v d → Dq K p Z H (.ref a) (.dict [(.int 0, d)])
  | dicA {a : Addr} {x : Str} {v : V} {d : PyData} : Out p Z a → H a = some (.dK [(.inr x, v)]) → Dq K p Z H v d → Dq K p Z H (.ref a) (.dict [(.str x, d)])
inductive DqAll (K : PySem.W.Frag) (p : Addr) (Z : Addr → Prop) (H : Hp) : List V → List PyData → Prop
  | nil : DqAll K p Z H [] []
  | cons {v : V} {vs : List V} {d : PyData} {ds : List PyData} : Dq K p Z H v d → DqAll K p Z H vs ds → DqAll K p Z H (v :: vs) (d :: ds)
end
theorem SameX.sqL {K : PySem.W.Frag} {p a : Addr} {H H' : Hp} {xs : List V} (s : SameX p H H') (hn : a ≠ p) (h : SqL K H a xs) : SqL K H' a xs := by
  rcases h with (h | ⟨o, h⟩) | h
  · exact .inl (.inl (s _ _ h hn))
  · exact .inl (.inr ⟨o, s _ _ h hn⟩)
  · exact .inr h
section
variable {K : PySem.W.Frag} {p : Addr} {Z : Addr → Prop} {H H' : Hp}
mutual
theorem Dq.x (s : SameX p H H') (t : SameT H H') : ∀ (d : PyData) (v : V), Dq K p Z H v d → Dq K p Z H' v d
  | .none, _, h => by cases h; exact .non
  | .bool b, _, h => by cases h; exact .bl b
  | .int i, _, h => by cases h; exact .int i
  | .str x, _, h => by cases h; exact .str x
  | .list ds, _, h => by
    cases h with
    | lst hn hs ha => exact .lst hn (s.sqL hn.1 hs) (DqAll.x s t ds _ ha)
  | .tuple ds, _, h => by
    cases h with
    | tup hs ha => exact .tup (t.seq hs) (DqAll.x s t ds _ ha)
  | .dict kvs, _, h => by
    cases h with
    | dic0 hn e => exact .dic0 hn (s _ _ e hn.1)
    | dic1 hn e hd => exact .dic1 hn (s _ _ e hn.1) (Dq.x s t _ _ hd)
    | dicA hn e hd => exact .dicA hn (s _ _ e hn.1) (Dq.x s t _ _ hd)
theorem DqAll.x (s : SameX p H H') (t : SameT H H') : ∀ (ds : List PyData) (vs : List V), DqAll K p Z H vs ds → DqAll K p Z H' vs ds
  | [], _, h => by cases h; exact .nil
  | d :: ds, _, h => by
    cases h with
    | cons h1 h2 => exact .cons (Dq.x s t d _ h1) (DqAll.x s t ds _ h2)
end
theorem Dq.mv {d : PyData} {v : V} {n : Nat} (h : Dq K p Z H v d) (P : PotAt H p n) (s : SameX p H H') : Dq K p Z H' v d := Dq.x s (P.t s) d v h
theorem DqAll.mv {ds : List PyData} {vs : List V} {n : Nat} (h : DqAll K p Z H vs ds) (P : PotAt H p n) (s : SameX p H H') : DqAll K p Z H' vs ds := DqAll.x s (P.t s) ds vs h
theorem Dq.same {d : PyData} {v : V} (h : Dq K p Z H v d) (s : Same H H') : Dq K p Z H' v d := Dq.x s.x (Same.t s) d v h
theorem DqAll.same {ds : List PyData} {vs : List V} (h : DqAll K p Z H vs ds) (s : Same H H') : DqAll K p Z H' vs ds := DqAll.x s.x (Same.t s) ds vs h
theorem DqAll.len : ∀ {ds : List PyData} {vs : List V}, DqAll K p Z H vs ds → vs.length = ds.length
  | [], _, h => by cases h; rfl
  | d :: ds, _, h => by
    cases h with
    | cons h1 h2 => simp [DqAll.len h2]
theorem DqAll.get : ∀ {ds : List PyData} {vs : List V} {i : Nat} {v : V}, DqAll K p Z H vs ds → vs[i]? = some v → ∃ d, ds[i]? = some d ∧ Dq K p Z H v d
  | [], _, i, v, h, e => by cases h; simp at e
  | d :: ds, _, 0, v, h, e => by
    cases h with
    | cons h1 h2 => simp at e; subst e; exact ⟨d, rfl, h1⟩
  | d :: ds, _, i + 1, v, h, e => by
    cases h with
    | cons h1 h2 =>
      obtain ⟨d', e1, e2⟩ := DqAll.get (i := i) h2 (by simpa using e)
      exact ⟨d', by simpa using e1, e2⟩
theorem DqAll.app : ∀ {ds es : List PyData} {vs us : List V}, DqAll K p Z H vs ds → DqAll K p Z H us es → DqAll K p Z H (vs ++ us) (ds ++ es)
  | [], _, _, _, h, k => by cases h; exact k
  | d :: ds, _, _, _, h, k => by
    cases h with
    | cons h1 h2 => exact .cons h1 (DqAll.app h2 k)
theorem DqAll.take : ∀ {ds : List PyData} {vs : List V} (n : Nat), DqAll K p Z H vs ds → DqAll K p Z H (vs.take n) (ds.take n)
  | _, _, 0, _ => by simpa using DqAll.nil
  | [], _, n + 1, h => by cases h; exact .nil
  | d :: ds, _, n + 1, h => by
    cases h with
    | cons h1 h2 => exact .cons h1 (DqAll.take n h2)
theorem DqAll.drop : ∀ {ds : List PyData} {vs : List V} (n : Nat), DqAll K p Z H vs ds → DqAll K p Z H (vs.drop n) (ds.drop n)
  | _, _, 0, h => h
  | [], _, n + 1, h => by cases h; exact .nil
  | d :: ds, _, n + 1, h => by
    cases h with
    | cons h1 h2 => exact DqAll.drop n h2
end
section
variable {K : PySem.W.Frag} {p D : Addr} {Z Z' : Addr → Prop} {H : Hp}
mutual
theorem Dq.weak (f : ∀ a, Z' a → Z a) : ∀ (d : PyData) (v : V), Dq K p Z H v d → Dq K p Z' H v d
  | .none, _, h => by cases h; exact .non
  | .bool b, _, h => by cases h; exact .bl b
  | .int i, _, h => by cases h; exact .int i
  | .str x, _, h => by cases h; exact .str x
  | .list ds, _, h => by
    cases h with
    | lst hn hs ha => exact .lst ⟨hn.1, fun z => hn.2 (f _ z)⟩ hs (DqAll.weak f ds _ ha)
  | .tuple ds, _, h => by
    cases h with
    | tup hs ha => exact .tup hs (DqAll.weak f ds _ ha)
  | .dict kvs, _, h => by
    cases h with
    | dic0 hn e => exact .dic0 ⟨hn.1, fun z => hn.2 (f _ z)⟩ e
    | dic1 hn e hd => exact .dic1 ⟨hn.1, fun z => hn.2 (f _ z)⟩ e (Dq.weak f _ _ hd)
    | dicA hn e hd => exact .dicA ⟨hn.1, fun z => hn.2 (f _ z)⟩ e (Dq.weak f _ _ hd)
theorem DqAll.weak (f : ∀ a, Z' a → Z a) : ∀ (ds : List PyData) (vs : List V), DqAll K p Z H vs ds → DqAll K p Z' H vs ds
  | [], _, h => by cases h; exact .nil
  | d :: ds, _, h => by
    cases h with
    | cons h1 h2 => exact .cons (Dq.weak f d _ h1) (DqAll.weak f ds _ h2)
end
theorem sqL_own {a : Addr} {xs : List V} {o : HO} (hn : a ≠ D) (h : SqL K H a xs) : SqL K (upd H D o) a xs := SameX.sqL (SameX.at (SameX.refl D H)) hn h
mutual
/-- the list at D, one of Z, is changed -/
theorem Dq.own {ys zs : List V} (hD : H D = some (.lst ys)) (z : Z D) : ∀ (d : PyData) (v : V), Dq K p Z H v d → Dq K p Z (upd H D (.lst zs)) v d
  | .none, _, h => by cases h; exact .non
  | .bool b, _, h => by cases h; exact .bl b
  | .int i, _, h => by cases h; exact .int i
  | .str x, _, h => by cases h; exact .str x
  | .list ds, _, h => by
    cases h with
    | lst hn hs ha => exact .lst hn (sqL_own (fun e => hn.2 (e ▸ z)) hs) (DqAll.own hD z ds _ ha)
  | .tuple ds, _, h => by
    cases h with
    | tup hs ha => exact .tup ((SameT.lst hD).seq hs) (DqAll.own hD z ds _ ha)
  | .dict kvs, _, h => by
    cases h with
    | @dic0 a hn e =>
      have ne : a ≠ D := fun q => hn.2 (q ▸ z)
      exact .dic0 hn ((upd_ne ne).trans e)
    | @dic1 a _ _ hn e hd =>
      have ne : a ≠ D := fun q => hn.2 (q ▸ z)
      exact .dic1 hn ((upd_ne ne).trans e) (Dq.own hD z _ _ hd)
    | @dicA a _ _ _ hn e hd =>
      have ne : a ≠ D := fun q => hn.2 (q ▸ z)
      exact .dicA hn ((upd_ne ne).trans e) (Dq.own hD z _ _ hd)
theorem DqAll.own {ys zs : List V} (hD : H D = some (.lst ys)) (z : Z D) : ∀ (ds : List PyData) (vs : List V), DqAll K p Z H vs ds → DqAll K p Z (upd H D (.lst zs)) vs ds
  | [], _, h => by cases h; exact .nil
  | d :: ds, _, h => by
    cases h with
    | cons h1 h2 => exact .cons (Dq.own hD z d _ h1) (DqAll.own hD z ds _ h2)
end
end
/-- the name of a value's type -/
def tyN : PyData → String
  | .none => "NoneType" | .bool _ => "bool" | .int _ => "int" | .str _ => "str" | .list _ => "list" | .tuple _ => "tuple" | .dict _ => "dict"
theorem Dq.ty {K : PySem.W.Frag} {p : Addr} {Z : Addr → Prop} {H : Hp} {v : V} {d : PyData} (h : Dq K p Z H v d) : TyX K H v (.type (tyN d)) := by
  cases h with
  | non => exact .base .non
  | bl b => exact .base (.bl b)
  | int i => exact .base (.int i)
  | str x => exact .base (.str x)
  | lst hn hs ha =>
    rcases hs with (e | ⟨o, e⟩) | ⟨o, its, n, e, c, _⟩
    · exact .base (.lst e)
    · exact .base (.frz e)
    · exact .kList e c
  | tup hs ha =>
    rcases hs with (e | ⟨o, e⟩) | ⟨o, its, n, e, c, _⟩
    · exact .base (.tup e)
    · exact .fTuple e
    · exact .kTuple e c
  | dic0 hn e => exact .base (.dK e)
  | dic1 hn e _ => exact .base (.dK e)
  | dicA hn e _ => exact .base (.dK e)
def isTup : PyData → Bool
  | .tuple _ => true
  | _ => false
def isInt : PyData → Bool
  | .int _ => true
  | .bool _ => true
  | _ => false
def isBool : PyData → Bool
  | .bool _ => true
  | _ => false
theorem kit_tup (d : PyData) : kitB (tyN d) "tuple" = some (isTup d) := by cases d <;> simp only [tyN, isTup] <;> decide +kernel
theorem kit_int (d : PyData) : kitB (tyN d) "int" = some (isInt d) := by cases d <;> simp only [tyN, isInt] <;> decide +kernel
theorem kit_bool (d : PyData) : kitB (tyN d) "bool" = some (isBool d) := by cases d <;> simp only [tyN, isBool] <;> decide +kernel
section
variable {X : Cx} {K : PySem.W.Frag}
/-- isinstance, as one word -/
structure IsQ (K : PySem.W.Frag) (xs : List V) (H : Hp) (Q : VK) : Prop where
  go : rIsi K xs H Q
theorem isQK (K : PySem.W.Frag) (h : X.K = K := by rfl) : CallR X (.builtin "isinstance") (IsQ K) := by
  subst h
  exact fun pins s σ H xs us Q I r h => call_isi pins s σ H xs us Q I r h.go
theorem isiOne {p : Addr} {Z : Addr → Prop} {H : Hp} {v : V} {d : PyData} {n : String} {b : Bool} {Q : VK} (h : Dq K p Z H v d) (hk : kitB (tyN d) n = some b) (q : Q (.bl b) H) : IsQ K [v, .ty n] H Q :=
  ⟨v, .ty n, .type (tyN d), .type n, b, rfl, .ty n, h.ty, kit_ty hk, q⟩
end
end LA

set_option maxHeartbeats 4000000
namespace LA
open PySem PySem.Spec PyProof.Rows L2
section
variable {X : Cx} {pins : List (Addr × Obj)} {σ : L2.St} {H : Hp} {s : Shared} {p : Addr} {Z : Addr → Prop}
/-- the object of a dict whose one key is 0 -/
theorem dic1_at (I : Inv X pins σ H s) {a : Addr} {v : V} (e : H a = some (.dK [(.inl 0, v)])) : (a == sysModules) = false ∧ ∃ (o : Obj) (es : Array DictEntry) (n : Nat) (en : DictEntry) (t : Tok),
    s.heap.get? a = some o ∧ o.cls = .type "dict" ∧ o.data = .dict es n ∧ es.toList = [en] ∧ en.key = .int 0 t ∧ RelV v en.val := by
  obtain ⟨_, hs, vs, kv, o, es, n, ho, hx, hd, _, hp, _⟩ := I.hok a _ e
  generalize hl : es.toList = l at hp
  match vs, kv, hp with
  | [q], .cons r .nil, hp =>
    match l, hp with
    | [en], .cons k1 k2 .nil =>
      have r3 : Sum.inl 0 = q.1 := r.1
      rcases keyIs_shape (show keyIs q.1 en.key = true from k1) with ⟨i, t, e1, e2⟩ | ⟨x, t, e1, e2⟩
      · rw [← r3] at e1
        cases e1
        exact ⟨hs, o, es, n, en, t, ho, hx.1, hd, hl, e2, by rw [k2]; exact r.2⟩
      · rw [← r3] at e1
        cases e1
theorem dicA_at (I : Inv X pins σ H s) {a : Addr} {x : Str} {v : V} (e : H a = some (.dK [(.inr x, v)])) : (a == sysModules) = false ∧ ∃ (o : Obj) (es : Array DictEntry) (n : Nat) (en : DictEntry) (t : Tok),
    s.heap.get? a = some o ∧ o.cls = .type "dict" ∧ o.data = .dict es n ∧ es.toList = [en] ∧ en.key = .str x t ∧ RelV v en.val := by
  obtain ⟨_, hs, vs, kv, o, es, n, ho, hx, hd, _, hp, _⟩ := I.hok a _ e
  generalize hl : es.toList = l at hp
  match vs, kv, hp with
  | [q], .cons r .nil, hp =>
    match l, hp with
    | [en], .cons k1 k2 .nil =>
      have r3 : Sum.inr x = q.1 := r.1
      rcases keyIs_shape (show keyIs q.1 en.key = true from k1) with ⟨i, t, e1, e2⟩ | ⟨x, t, e1, e2⟩
      · rw [← r3] at e1
        cases e1
      · rw [← r3] at e1
        cases e1
        exact ⟨hs, o, es, n, en, t, ho, hx.1, hd, hl, e2, by rw [k2]; exact r.2⟩
theorem dic0_at (I : Inv X pins σ H s) {a : Addr} (e : H a = some (.dK [])) : (a == sysModules) = false ∧ ∃ (o : Obj) (es : Array DictEntry) (n : Nat),
    s.heap.get? a = some o ∧ o.cls = .type "dict" ∧ o.data = .dict es n ∧ es.toList = [] := by
  obtain ⟨_, hs, vs, kv, o, es, n, ho, hx, hd, _, hp, _⟩ := I.hok a _ e
  cases kv
  generalize hl : es.toList = l at hp
  cases hp
  exact ⟨hs, o, es, n, ho, hx.1, hd, hl⟩
mutual
theorem Dq.reads (I : Inv X pins σ H s) : ∀ (d : PyData) (v : V) (u : Value), Dq X.K p Z H v d → RelV v u → ∃ bs, Reads s.heap u d bs
  | .none, v, u, h, r => by
    cases h
    obtain rfl : u = Value.none := r
    exact ⟨[], .none⟩
  | .bool b, v, u, h, r => by
    cases h
    obtain rfl : u = Value.bool b := r
    exact ⟨[], .bool b⟩
  | .int i, v, u, h, r => by
    cases h
    obtain ⟨t, e⟩ : ∃ t, u = Value.int i t := r
    subst e; exact ⟨[], .int i t⟩
  | .str x, v, u, h, r => by
    cases h
    obtain ⟨t, e⟩ : ∃ t, u = Value.str x t := r
    subst e; exact ⟨[], .str x t⟩
  | .list ds, v, u, h, r => by
    cases h with
    | @lst a xs _ _ hs ha =>
      obtain rfl : u = Value.ref a := r
      obtain ⟨its, rv, ⟨o, n, g1, g2, _, g3⟩, _⟩ := I.list hs
      obtain ⟨bs, q⟩ := DqAll.reads I ds xs its ha rv
      exact ⟨a :: bs, .list g1 g2 g3 q⟩
  | .tuple ds, v, u, h, r => by
    cases h with
    | @tup a xs _ hs ha =>
      obtain rfl : u = Value.ref a := r
      obtain ⟨its, rv, ⟨o, g1, g2, n, g3⟩, _⟩ := I.tuple hs
      obtain ⟨bs, q⟩ := DqAll.reads I ds xs its ha rv
      exact ⟨bs, .tuple g1 g2 g3 q⟩
  | .dict kvs, v, u, h, r => by
    cases h with
    | @dic0 a _ e =>
      obtain rfl : u = Value.ref a := r
      obtain ⟨_, o, es, n, g1, g2, g3, g4⟩ := dic0_at I e
      exact ⟨_, .dict g1 g2 g3 (as := []) (bs := []) (by rw [g4]; exact .nil) (by rw [g4]; exact .nil)⟩
    | @dic1 a y d _ e hd =>
      obtain rfl : u = Value.ref a := r
      obtain ⟨_, o, es, n, en, t, g1, g2, g3, g4, g5, g6⟩ := dic1_at I e
      obtain ⟨bs, q⟩ := Dq.reads I d y en.val hd g6
      exact ⟨_, .dict g1 g2 g3 (as := [] ++ []) (bs := bs ++ []) (by rw [g4]; exact .cons (by show Reads s.heap en.key (.int 0) []; rw [g5]; exact .int 0 t) .nil) (by rw [g4]; exact .cons q .nil)⟩
    | @dicA a x y d _ e hd =>
      obtain rfl : u = Value.ref a := r
      obtain ⟨_, o, es, n, en, t, g1, g2, g3, g4, g5, g6⟩ := dicA_at I e
      obtain ⟨bs, q⟩ := Dq.reads I d y en.val hd g6
      exact ⟨_, .dict g1 g2 g3 (as := [] ++ []) (bs := bs ++ []) (by rw [g4]; exact .cons (by show Reads s.heap en.key (.str x) []; rw [g5]; exact .str x t) .nil) (by rw [g4]; exact .cons q .nil)⟩
theorem DqAll.reads (I : Inv X pins σ H s) : ∀ (ds : List PyData) (vs : List V) (us : List Value), DqAll X.K p Z H vs ds → Vals vs us → ∃ bs, ReadsAll s.heap us ds bs
  | [], vs, us, h, r => by
    cases h
    cases r
    exact ⟨[], .nil⟩
  | d :: ds, vs, us, h, r => by
    cases h with
    | cons h1 h2 =>
      cases r with
      | cons r1 r2 =>
        obtain ⟨b1, q1⟩ := Dq.reads I d _ _ h1 r1
        obtain ⟨b2, q2⟩ := DqAll.reads I ds _ _ h2 r2
        exact ⟨b1 ++ b2, .cons q1 q2⟩
end
/-- a value tells itself: within other values, and by itself -/
def Tells (P : Program) (w : World) (h : Heap) (u : Value) (d : PyData) : Prop :=
  ∃ bs, ReadAtMost h d.depth bs ∧ ReprK P w bs h d.depth u d.shown ∧ ∀ a, u = .ref a → ∃ T idr, ShowsBy P w h a d T idr
def TellsAll (P : Program) (w : World) (h : Heap) (us : List Value) (ds : List PyData) : Prop :=
  ∃ bs, ReadAtMost h (PyData.depthAll ds) bs ∧ ReprAllK P w bs h (PyData.depthAll ds) us (PyData.shownAll ds)
theorem szAll_mem : ∀ {ds : List PyData} {d : PyData}, d ∈ ds → szD d ≤ szAll ds
  | a :: ds, d, h => by
    simp only [szAll]
    rcases List.mem_cons.mp h with rfl | h
    · omega
    · have := szAll_mem h; omega
mutual
theorem Dq.tells (I : Inv X pins σ H s) : ∀ (d : PyData) (v : V) (u : Value), Dq X.K p Z H v d → RelV v u → d.showable = true → szD d ≤ sizeLine → Tells X.prog X.w s.heap u d
  | .none, v, u, h, r, hw, hz => by
    cases h
    obtain rfl : u = Value.none := r
    exact ⟨[], nofun, by simp only [PyData.shown]; exact .of_is ReprIs.none _ _ _, nofun⟩
  | .bool b, v, u, h, r, hw, hz => by
    cases h
    obtain rfl : u = Value.bool b := r
    exact ⟨[], nofun, by simp only [PyData.shown]; exact .of_is (ReprIs.bool b) _ _ _, nofun⟩
  | .int i, v, u, h, r, hw, hz => by
    cases h
    obtain ⟨t, e⟩ : ∃ t, u = Value.int i t := r
    subst e
    have hw' : i.natAbs.log2 < 1920 := by simpa [PyData.showable] using hw
    exact ⟨[], nofun, by simp only [PyData.shown]; exact .of_is (ReprIs.int t hw') _ _ _, nofun⟩
  | .str x, v, u, h, r, hw, hz => by
    cases h
    obtain ⟨t, e⟩ : ∃ t, u = Value.str x t := r
    subst e
    have hz' : (reprText x).length ≤ sizeLine := by simpa [szD] using hz
    exact ⟨[], nofun, by simp only [PyData.shown]; exact .of_is (ReprIs.str x t hz') _ _ _, nofun⟩
  | .list ds, v, u, h, r, hw, hz => by
    have hsh : (listText (PyData.shownAll ds)).length ≤ sizeLine := by have := shown_le (.list ds); simp only [PyData.shown] at this; omega
    obtain ⟨rb, hrd⟩ := Dq.reads I _ v u h r
    cases h with
    | @lst a xs _ _ hs ha =>
      obtain rfl : u = Value.ref a := r
      obtain ⟨its, rv, ⟨o, n, g1, g2, _, g3⟩, _⟩ := I.list hs
      obtain ⟨bs, q1, q2⟩ := DqAll.tells I ds xs its ha rv (by simpa [PyData.showable] using hw) (by simp only [szD] at hz; omega)
      have dd : PyData.depthAll ds < (PyData.list ds).depth := by simp only [PyData.depth]; omega
      have out : a ∉ bs := not_mem_of_deeper hrd dd q1
      refine ⟨a :: bs, q1.cons hrd (Nat.le_of_lt dd), ?_, fun b eb => ?_⟩
      · simp only [PyData.depth, PyData.shown]
        cases its with
        | nil =>
          have e0 : PyData.shownAll ds = [] := List.eq_nil_of_length_eq_zero (by simpa using q2.length_eq)
          rw [e0, listText_nil]
          exact .listEmpty g1 g2 g3
        | cons i1 i2 => exact .list g1 g2 g3 out (by simpa using q2.length_eq) fun j y ey => q2.item j y (by simpa using ey)
      · cases eb
        refine ⟨"list", "list.__repr__", F.slot_list_repr.toG, F.slot_list_str, F.slot_list_format, fun s' k0 => ⟨o, k0 _ _ g1, g2⟩, fun A E s' Q hg hu k0 hQ => ?_⟩
        simp only [PyData.depth] at hu
        simp only [PyData.shown] at hQ
        cases its with
        | nil =>
          have e0 : PyData.shownAll ds = [] := List.eq_nil_of_length_eq_zero (by simpa using q2.length_eq)
          rw [e0, listText_nil] at hQ
          exact call_list_repr_empty ⟨o, k0 _ _ g1, g2⟩ (k0 _ _ g1) g3 (hQ s'.heap _ _ fun _ _ z => z)
        | cons i1 i2 => exact call_list_reprK g1 g2 g3 out (by simpa using q2.length_eq) (fun j y ey => q2.item j y (by simpa using ey)) hg (fun c _ => Clear.nil c) hu k0 hQ hsh
  | .tuple ds, v, u, h, r, hw, hz => by
    have hsh : (tupleText (PyData.shownAll ds)).length ≤ sizeLine := by have := shown_le (.tuple ds); simp only [PyData.shown] at this; omega
    obtain ⟨rb, hrd⟩ := Dq.reads I _ v u h r
    cases h with
    | @tup a xs _ hs ha =>
      obtain rfl : u = Value.ref a := r
      obtain ⟨its, rv, ⟨o, g1, g2, n, g3⟩, _⟩ := I.tuple hs
      obtain ⟨bs, q1, q2⟩ := DqAll.tells I ds xs its ha rv (by simpa [PyData.showable] using hw) (by simp only [szD] at hz; omega)
      have dd : PyData.depthAll ds < (PyData.tuple ds).depth := by simp only [PyData.depth]; omega
      have out : a ∉ bs := not_mem_of_deeper hrd dd q1
      refine ⟨a :: bs, q1.cons hrd (Nat.le_of_lt dd), by simp only [PyData.depth, PyData.shown]; exact .tuple g1 g2 g3 out q2, fun b eb => ?_⟩
      cases eb
      refine ⟨"tuple", "tuple.__repr__", F.slot_tuple_repr, F.slot_tuple_str, F.slot_tuple_format, fun s' k0 => ⟨o, k0 _ _ g1, g2⟩, fun A E s' Q hg hu k0 hQ => ?_⟩
      simp only [PyData.depth] at hu
      simp only [PyData.shown] at hQ
      exact call_tuple_reprK g1 g2 g3 out q2 hg (fun c _ => Clear.nil c) hu k0 hQ hsh
  | .dict kvs, v, u, h, r, hw, hz => by
    have hsh : (dictText (PyData.shownKv kvs)).length ≤ sizeLine := by have := shown_le (.dict kvs); simp only [PyData.shown] at this; omega
    obtain ⟨rb, hrd⟩ := Dq.reads I _ v u h r
    have fin : ∀ (a : Addr) (o : Obj) (es : Array DictEntry) (n : Nat) (bs : List Addr), u = .ref a → s.heap.get? a = some o → o.cls = .type "dict" → o.data = .dict es n → (a == sysModules) = false → ReadAtMost s.heap (PyData.depthKv kvs) bs →
        ReprEntriesK X.prog X.w bs s.heap (PyData.depthKv kvs) es.toList (PyData.shownKv kvs) → Tells X.prog X.w s.heap u (.dict kvs) := by
      intro a o es n bs eu g1 g2 g3 hsys q1 q2
      subst eu
      have dd : PyData.depthKv kvs < (PyData.dict kvs).depth := by simp only [PyData.depth]; omega
      have out : a ∉ bs := not_mem_of_deeper hrd dd q1
      refine ⟨a :: bs, q1.cons hrd (Nat.le_of_lt dd), by simp only [PyData.depth, PyData.shown]; exact .dict g1 g2 g3 hsys out q2, fun b eb => ?_⟩
      cases eb
      refine ⟨"dict", "dict.__repr__", F.slot_dict_repr, F.slot_dict_str, F.slot_dict_format, fun s' k0 => ⟨o, k0 _ _ g1, g2⟩, fun A E s' Q hg hu k0 hQ => ?_⟩
      simp only [PyData.depth] at hu
      simp only [PyData.shown] at hQ
      exact call_dict_reprK g1 g2 g3 hsys out q2 hg (fun c _ => Clear.nil c) hu k0 hQ hsh
    cases h with
    | @dic0 a _ e =>
      obtain ⟨hsys, o, es, n, g1, g2, g3, g4⟩ := dic0_at I e
      exact fin a o es n [] r g1 g2 g3 hsys nofun (by rw [g4]; simp only [PyData.shownKv]; exact .nil)
    | @dic1 a y d _ e hd =>
      obtain ⟨hsys, o, es, n, en, t, g1, g2, g3, g4, g5, g6⟩ := dic1_at I e
      have hw' : d.showable = true := by simpa [PyData.showable, PyData.showableKv] using hw
      obtain ⟨bs, q1, q2, _⟩ := Dq.tells I d y en.val hd g6 hw' (by simp only [szD, szKv] at hz; omega)
      have le : d.depth ≤ PyData.depthKv [(.int 0, d)] := by simp only [PyData.depthKv]; omega
      refine fin a o es n bs r g1 g2 g3 hsys (q1.mono le) ?_
      rw [g4]
      simp only [PyData.shownKv]
      refine .cons ?_ (q2.level_le le) .nil
      rw [g5]
      simp only [PyData.shown]
      exact .of_is (ReprIs.int t (by decide)) _ _ _
    | @dicA a x y d _ e hd =>
      obtain ⟨hsys, o, es, n, en, t, g1, g2, g3, g4, g5, g6⟩ := dicA_at I e
      have hw' : d.showable = true := by simpa [PyData.showable, PyData.showableKv] using hw
      obtain ⟨bs, q1, q2, _⟩ := Dq.tells I d y en.val hd g6 hw' (by simp only [szD, szKv] at hz; omega)
      have le : d.depth ≤ PyData.depthKv [(.str x, d)] := by simp only [PyData.depthKv]; omega
      refine fin a o es n bs r g1 g2 g3 hsys (q1.mono le) ?_
      rw [g4]
      simp only [PyData.shownKv]
      refine .cons ?_ (q2.level_le le) .nil
      rw [g5]
      simp only [PyData.shown]
      exact .of_is (ReprIs.str x t (by simp only [szD, szKv] at hz; omega)) _ _ _
theorem DqAll.tells (I : Inv X pins σ H s) : ∀ (ds : List PyData) (vs : List V) (us : List Value), DqAll X.K p Z H vs ds → Vals vs us → PyData.showableAll ds = true → szAll ds ≤ sizeLine → TellsAll X.prog X.w s.heap us ds
  | [], vs, us, h, r, hw, hz => by
    cases h
    cases r
    exact ⟨[], nofun, by simp only [PyData.shownAll]; exact .nil⟩
  | d :: ds, vs, us, h, r, hw, hz => by
    cases h with
    | cons h1 h2 =>
      cases r with
      | cons r1 r2 =>
        have hw' : d.showable = true ∧ PyData.showableAll ds = true := by simpa [PyData.showableAll] using hw
        obtain ⟨b1, m1, k1, _⟩ := Dq.tells I d _ _ h1 r1 hw'.1 (by simp only [szAll] at hz; omega)
        obtain ⟨b2, m2, k2⟩ := DqAll.tells I ds _ _ h2 r2 hw'.2 (by simp only [szAll] at hz; omega)
        refine ⟨b1 ++ b2, ?_, ?_⟩
        · simp only [PyData.depthAll]
          exact (m1.mono (Nat.le_max_left _ _)).append (m2.mono (Nat.le_max_right _ _))
        · simp only [PyData.depthAll, PyData.shownAll]
          exact .cons ((k1.more fun c hc => List.mem_append_left _ hc).level_le (Nat.le_max_left _ _)) (k2.more_le (fun c hc => List.mem_append_right _ hc) (Nat.le_max_right _ _))
end
end
end LA

set_option maxHeartbeats 4000000
namespace LA
open PySem PySem.Spec PyProof.Rows L2
section
variable {X : Cx}
end
section
variable {prog : Program} {w : World} {A : Around} {E : Value → Shared → Prop} {s : Shared}
end
section
variable {X : Cx}
end
end LA

set_option maxHeartbeats 4000000
namespace LA
open PySem L2
mutual
def IB (n : Nat) : PyData → Prop
  | .int i => i.natAbs ≤ n
  | .list xs => IBs n xs
  | .tuple xs => IBs n xs
  | .dict kvs => IBk n kvs
  | .none => True
  | .bool _ => True
  | .str _ => True
def IBs (n : Nat) : List PyData → Prop
  | [] => True
  | x :: xs => IB n x ∧ IBs n xs
def IBk (n : Nat) : List (PyData × PyData) → Prop
  | [] => True
  | (k, v) :: r => IB n k ∧ IB n v ∧ IBk n r
end
theorem IBs_iff {n : Nat} : ∀ {xs : List PyData}, IBs n xs ↔ ∀ x ∈ xs, IB n x
  | [] => by simp [IBs]
  | x :: xs => by simp [IBs, IBs_iff (xs := xs)]
mutual
theorem IB.mono {n m : Nat} (h : n ≤ m) : ∀ d : PyData, IB n d → IB m d
  | .int i, q => by simp only [IB] at *; omega
  | .list xs, q => by simp only [IB] at *; exact IBs.mono h xs q
  | .tuple xs, q => by simp only [IB] at *; exact IBs.mono h xs q
  | .dict kvs, q => by simp only [IB] at *; exact IBk.mono h kvs q
  | .none, _ => by simp only [IB]
  | .bool _, _ => by simp only [IB]
  | .str _, _ => by simp only [IB]
theorem IBs.mono {n m : Nat} (h : n ≤ m) : ∀ d : List PyData, IBs n d → IBs m d
  | [], _ => by simp only [IBs]
  | x :: xs, q => by simp only [IBs] at *; exact ⟨IB.mono h x q.1, IBs.mono h xs q.2⟩
theorem IBk.mono {n m : Nat} (h : n ≤ m) : ∀ d : List (PyData × PyData), IBk n d → IBk m d
  | [], _ => by simp only [IBk]
  | (k, v) :: xs, q => by simp only [IBk] at *; exact ⟨IB.mono h k q.1, IB.mono h v q.2.1, IBk.mono h xs q.2.2⟩
end
theorem log_small {n : Nat} {m : Nat} (h : n ≤ m) (hm : m < 2 ^ 200) : n.log2 < 200 := PySem.Flt.log2_lt_of (by decide) (by omega)
mutual
theorem IB.show {n : Nat} (h : n < 2 ^ 200) : ∀ d : PyData, IB n d → d.showable = true
  | .int i, q => by simp only [IB] at q; simp only [PyData.showable, decide_eq_true_eq]; have := log_small q h; omega
  | .list xs, q => by simp only [IB] at q; simp only [PyData.showable]; exact IBs.show h xs q
  | .tuple xs, q => by simp only [IB] at q; simp only [PyData.showable]; exact IBs.show h xs q
  | .dict kvs, q => by simp only [IB] at q; simp only [PyData.showable]; exact IBk.show h kvs q
  | .none, _ => by simp only [PyData.showable]
  | .bool _, _ => by simp only [PyData.showable]
  | .str _, _ => by simp only [PyData.showable]
theorem IBs.show {n : Nat} (h : n < 2 ^ 200) : ∀ d : List PyData, IBs n d → PyData.showableAll d = true
  | [], _ => by simp only [PyData.showableAll]
  | x :: xs, q => by simp only [IBs] at q; simp only [PyData.showableAll, IB.show h x q.1, IBs.show h xs q.2, Bool.and_self]
theorem IBk.show {n : Nat} (h : n < 2 ^ 200) : ∀ d : List (PyData × PyData), IBk n d → PyData.showableKv d = true
  | [], _ => by simp only [PyData.showableKv]
  | (k, v) :: xs, q => by simp only [IBk] at q; simp only [PyData.showableKv, IB.show h k q.1, IB.show h v q.2.1, IBk.show h xs q.2.2, Bool.and_self]
end
theorem depthAll_le {e : Nat} : ∀ {xs : List PyData}, PyData.depthAll xs ≤ e ↔ ∀ x ∈ xs, x.depth ≤ e
  | [] => by simp [PyData.depthAll]
  | x :: xs => by
    have ih := depthAll_le (e := e) (xs := xs)
    simp only [PyData.depthAll, List.mem_cons, forall_eq_or_imp, Nat.max_le, ih]
theorem szAll_app : ∀ xs ys : List PyData, szAll (xs ++ ys) = szAll xs + szAll ys
  | [], ys => by simp [szAll]
  | x :: xs, ys => by simp only [List.cons_append, szAll, szAll_app xs ys]; omega
theorem szAll_cut (xs : List PyData) (n : Nat) : szAll (xs.take n) + szAll (xs.drop n) = szAll xs := by
  rw [← szAll_app, List.take_append_drop]
structure Bd (n s e : Nat) (d : PyData) : Prop where
  ib : IB n d
  sz : szD d ≤ s
  dp : d.depth ≤ e
structure Bds (n s e : Nat) (ds : List PyData) : Prop where
  ib : ∀ x ∈ ds, IB n x
  sz : szAll ds ≤ s
  dp : ∀ x ∈ ds, x.depth ≤ e
theorem Bd.mono {n s e n' s' e' : Nat} {d : PyData} (h : Bd n s e d) (h1 : n ≤ n') (h2 : s ≤ s') (h3 : e ≤ e') : Bd n' s' e' d := ⟨h.ib.mono h1 d, Nat.le_trans h.sz h2, Nat.le_trans h.dp h3⟩
theorem Bds.mono {n s e n' s' e' : Nat} {d : List PyData} (h : Bds n s e d) (h1 : n ≤ n') (h2 : s ≤ s') (h3 : e ≤ e') : Bds n' s' e' d := ⟨fun x hx => (h.ib x hx).mono h1 x, Nat.le_trans h.sz h2, fun x hx => Nat.le_trans (h.dp x hx) h3⟩
theorem Bd.tup {n s e : Nat} {ds : List PyData} (h : Bds n s e ds) : Bd n (s + 3) (e + 1) (.tuple ds) := ⟨by simp only [IB]; exact IBs_iff.mpr h.ib, by simp only [szD]; have := h.sz; omega, by simp only [PyData.depth]; have := depthAll_le.mpr h.dp; omega⟩
theorem Bd.lst {n s e : Nat} {ds : List PyData} (h : Bds n s e ds) : Bd n (s + 3) (e + 1) (.list ds) := ⟨by simp only [IB]; exact IBs_iff.mpr h.ib, by simp only [szD]; have := h.sz; omega, by simp only [PyData.depth]; have := depthAll_le.mpr h.dp; omega⟩
theorem Bds.nil {n s e : Nat} : Bds n s e [] := ⟨nofun, by simp [szAll], nofun⟩
theorem Bds.cons {n s t e : Nat} {d : PyData} {ds : List PyData} (h : Bd n s e d) (k : Bds n t e ds) : Bds n (s + 2 + t) e (d :: ds) :=
  ⟨fun x hx => (List.mem_cons.mp hx).elim (fun z => z ▸ h.ib) (k.ib x), by simp only [szAll]; have := h.sz; have := k.sz; omega, fun x hx => (List.mem_cons.mp hx).elim (fun z => z ▸ h.dp) (k.dp x)⟩
theorem Bds.app {n s t e : Nat} {ds es : List PyData} (h : Bds n s e ds) (k : Bds n t e es) : Bds n (s + t) e (ds ++ es) :=
  ⟨fun x hx => (List.mem_append.mp hx).elim (h.ib x) (k.ib x), by rw [szAll_app]; have := h.sz; have := k.sz; omega, fun x hx => (List.mem_append.mp hx).elim (h.dp x) (k.dp x)⟩
theorem Bds.take {n s e : Nat} {ds : List PyData} (h : Bds n s e ds) (i : Nat) : Bds n s e (ds.take i) :=
  ⟨fun x hx => h.ib x (List.mem_of_mem_take hx), by have := szAll_cut ds i; have := h.sz; omega, fun x hx => h.dp x (List.mem_of_mem_take hx)⟩
theorem Bds.drop {n s e : Nat} {ds : List PyData} (h : Bds n s e ds) (i : Nat) : Bds n s e (ds.drop i) :=
  ⟨fun x hx => h.ib x (List.mem_of_mem_drop hx), by have := szAll_cut ds i; have := h.sz; omega, fun x hx => h.dp x (List.mem_of_mem_drop hx)⟩
theorem Bds.get {n s e : Nat} {ds : List PyData} {i : Nat} {d : PyData} (h : Bds n s e ds) (hd : ds[i]? = some d) : Bd n s e d :=
  ⟨h.ib d (List.mem_of_getElem? hd), Nat.le_trans (szAll_mem (List.mem_of_getElem? hd)) h.sz, h.dp d (List.mem_of_getElem? hd)⟩
/-- one part otherwise -/
theorem Bds.put {n s e n' s' e' : Nat} {ds : List PyData} {i : Nat} {d d' : PyData} (h : Bds n s e ds) (hd : ds[i]? = some d) (h' : Bd n' s' e' d') (hn : n ≤ n') (he : e ≤ e') : Bds n' (s - szD d + s') e' (ds.take i ++ d' :: ds.drop (i + 1)) := by
  refine ⟨fun x hx => ?_, ?_, fun x hx => ?_⟩
  · rcases List.mem_append.mp hx with hx | hx
    · exact (h.ib x (List.mem_of_mem_take hx)).mono hn x
    · rcases List.mem_cons.mp hx with rfl | hx
      · exact h'.ib
      · exact (h.ib x (List.mem_of_mem_drop hx)).mono hn x
  · have e1 := szAll_cut ds i
    have hlt : i < ds.length := by
      rcases Nat.lt_or_ge i ds.length with z | z
      · exact z
      · rw [List.getElem?_eq_none z] at hd; cases hd
    have e2 : ds.drop i = d :: ds.drop (i + 1) := by
      rw [List.drop_eq_getElem_cons hlt]; congr 1
      rw [List.getElem?_eq_getElem hlt] at hd; exact Option.some.inj hd
    rw [e2] at e1
    simp only [szAll] at e1
    rw [szAll_app]
    simp only [szAll]
    have := h.sz; have := h'.sz
    omega
  · rcases List.mem_append.mp hx with hx | hx
    · exact Nat.le_trans (h.dp x (List.mem_of_mem_take hx)) he
    · rcases List.mem_cons.mp hx with rfl | hx
      · exact h'.dp
      · exact Nat.le_trans (h.dp x (List.mem_of_mem_drop hx)) he
theorem Bds.len {n s e : Nat} {ds : List PyData} (h : Bds n s e ds) : ds.length ≤ s := by
  have : ∀ ds : List PyData, ds.length ≤ szAll ds := by
    intro ds; induction ds with
    | nil => simp
    | cons d ds ih => simp only [List.length_cons, szAll]; omega
  exact Nat.le_trans (this ds) h.sz
end LA

set_option maxHeartbeats 4000000
namespace LA
open PySem L2
def isNB (lim : Int) : PyData → Bool
  | .int i => decide (0 ≤ i) && decide (i < lim)
  | _ => false
def isLet (lim : Int) : PyData → Bool
  | .tuple ds => ds.all (isNB lim)
  | _ => false
/-- whether any value is a number below the limit -/
def spNB (K : PySem.W.Frag) : Sp := fun vs H Q _ => ∃ (p : Addr) (Z : Addr → Prop) (v : V) (d : PyData) (lim : Int), vs = [v, .int lim] ∧ Dq K p Z H v d ∧ Q (.bl (isNB lim d)) H
/-- the numbers of a judge's letters -/
def spInC (K : PySem.W.Frag) : Sp := fun vs H Q _ => ∃ (v : V) (j : Jd) (nx ny : Nat), vs = [v] ∧ JAt K H v j ∧ IsJ j nx ny ∧ Q (.int (nx : Int)) H
def spLet (K : PySem.W.Frag) : Sp := fun vs H Q _ => ∃ (p : Addr) (Z : Addr → Prop) (v : V) (d : PyData) (lim : Int), vs = [v, .int lim] ∧ Dq K p Z H v d ∧ szD d ≤ 1000000 ∧ ∀ H', Same H H' → Q (.bl (isLet lim d)) H'
theorem szAll_len : ∀ ds : List PyData, ds.length * 2 ≤ szAll ds
  | [] => by simp [szAll]
  | d :: ds => by have := szAll_len ds; simp only [List.length_cons, szAll]; omega
theorem takeLt {α : Type} {ds : List PyData} {i : Nat} {f : PyData → α} {g : α → V} (h : szD (.tuple ds) ≤ 1000000) : (((ds.take i).map f).map g).length < sizeLine := by
  have h1 := szAll_len ds
  simp only [szD] at h
  rw [List.length_map, List.length_map, List.length_take]
  exact Nat.lt_of_le_of_lt (show min i ds.length ≤ 1000000 by omega) (by decide)
/-- the first state and the first row of a judge -/
theorem JAt.first {K : PySem.W.Frag} {H : Hp} {v : V} {j : Jd} {nx ny : Nat} (h : JAt K H v j) (i : IsJ j nx ny) : ∃ (a b c : Addr) (vs us : List V) (r : Rw), v = .ref a ∧ SqT K H a vs ∧ vs[0]? = some (.ref b) ∧ SqT K H b us ∧ us.length = nx ∧ us[0]? = some (.ref c) ∧ SqT K H c (r.map oV) ∧ r.length = ny := by
  obtain ⟨a, vs, rfl, hs, hp⟩ := h
  have n1 := i.n1
  have hj0 : j[0]? = some (j[0]'(by omega)) := List.getElem?_eq_getElem (by omega)
  obtain ⟨x, hx, b, us, rfl, hs2, hp2⟩ := paired_at' hp hj0
  obtain ⟨e1, e2⟩ := i.st _ (List.mem_of_getElem? hj0)
  have hl2 := paired_len hp2
  have x1 := i.x1
  have hr0 : (j[0]'(by omega))[0]? = some ((j[0]'(by omega))[0]'(by omega)) := List.getElem?_eq_getElem (by omega)
  obtain ⟨y, hy, c, rfl, hs3⟩ := paired_at' hp2 hr0
  exact ⟨a, b, c, vs, us, _, rfl, hs, hx, hs2, by omega, hy, hs3, (e2 _ (List.mem_of_getElem? hr0)).1⟩
end LA

set_option maxHeartbeats 4000000
namespace LA
open PySem L2
structure VL (K : PySem.W.Frag) (p : Addr) (Z : Addr → Prop) (N S E : Nat) (H : Hp) (l : Addr) (vs : List V) (ds : List PyData) : Prop where
  at' : H l = some (.lst vs)
  ne : l ≠ p
  dq : DqAll K p Z H vs ds
  bd : ∀ d ∈ ds, Bd N S E d
section
variable {K : PySem.W.Frag} {p : Addr} {Z : Addr → Prop} {N S E : Nat} {H H' : Hp} {l : Addr} {vs : List V} {ds : List PyData}
theorem VL.x {n : Nat} (h : VL K p Z N S E H l vs ds) (P : PotAt H p n) (s : SameX p H H') : VL K p Z N S E H' l vs ds := ⟨s _ _ h.at' h.ne, h.ne, h.dq.mv P s, h.bd⟩
theorem VL.s (h : VL K p Z N S E H l vs ds) (s : Same H H') : VL K p Z N S E H' l vs ds := ⟨s _ _ h.at', h.ne, h.dq.same s, h.bd⟩
theorem VL.new {n : Nat} {q : Addr} (P : PotAt H p n) (hq : H q = none) (h : DqAll K p Z H vs ds) (hb : ∀ d ∈ ds, Bd N S E d) : VL K p Z N S E (upd H q (.lst vs)) q vs ds :=
  ⟨upd_same, P.ne hq, h.same ((Same.refl H).new hq), hb⟩
theorem VL.get {i : Nat} {v : V} (h : VL K p Z N S E H l vs ds) (e : vs[i]? = some v) : ∃ d, ds[i]? = some d ∧ Dq K p Z H v d ∧ Bd N S E d := by
  obtain ⟨d, e1, e2⟩ := h.dq.get e
  exact ⟨d, e1, e2, h.bd d (List.mem_of_getElem? e1)⟩
end
theorem int_bd {N : Nat} (i : Int) (hi : i.natAbs < 64) (hN : 64 ≤ N) : Bd N 8 0 (.int i) := by
  refine ⟨by simp only [IB]; omega, ?_, by simp [PyData.depth]⟩
  simp only [szD]
  have : i.natAbs.log2 < 6 := PySem.Flt.log2_lt_of (by decide) (by omega)
  omega
/-- what repr asks -/
theorem Bd.repr {N s e : Nat} {d : PyData} (h : Bd N s e d) (h1 : N < 2 ^ 200) (h2 : s ≤ 1000000) (h3 : e ≤ 64) : d.showable = true ∧ d.depth ≤ 64 ∧ szD d ≤ sizeLine :=
  ⟨h.ib.show h1 d, Nat.le_trans h.dp h3, Nat.le_trans (Nat.le_trans h.sz h2) (by decide)⟩
theorem nats_dq {K : PySem.W.Frag} {p : Addr} {Z : Addr → Prop} {H : Hp} : ∀ ns : List Nat, DqAll K p Z H (ns.map nV) (ns.map nD)
  | [] => .nil
  | n :: ns => .cons (.int _) (nats_dq ns)
theorem nats_bd {N : Nat} (hN : 64 ≤ N) : ∀ ns : List Nat, (∀ x ∈ ns, x < 64) → Bds N (ns.length * 10) 0 (ns.map nD)
  | [], _ => Bds.nil
  | n :: ns, h => by
    have := Bds.cons (int_bd (N := N) (n : Int) (by have := h n List.mem_cons_self; omega) hN) (nats_bd hN ns fun x hx => h x (List.mem_cons_of_mem _ hx))
    refine this.mono (Nat.le_refl _) ?_ (Nat.le_refl _)
    rw [List.length_cons, Nat.succ_mul]; omega
end LA

set_option maxHeartbeats 4000000
namespace LA
open PySem PySem.Spec PyProof.Rows L2
open AutoSeq1 (wpAny_loadPart')
theorem mul_once (l : Addr) (its : Array Value) (n : Nat) (dd : Option Addr) (sl : Array (Option Value)) (u : Tok) :
    Meets (Builtin.«tuple.__mul__» ⟨[.ref l, .int 1 u], []⟩) (fun _ R st => st.heap.get? l = some { cls := .type "tuple", dict := dd, data := .seq its n, slots := sl } ∧ R (.ok (.ret (.ref l))) st) :=
  .of_wp fun pr wo A R st hyp => by
    obtain ⟨hp, g, d, tk, os⟩ := st
    obtain ⟨hl, q⟩ := hyp
    have f1 := AutoSeq1.idx_int
    have c1 : (its.isEmpty || (1 : Int) == 1) = true := by cases its.isEmpty <;> rfl
    wp_walk using wpAny_loadPart' hl
    first
      | exact ⟨_, rfl, q⟩
      | (refine wpAny_ite_true (decide_eq_true c1) ?_; wp_walk using wpAny_loadPart' hl; exact ⟨_, rfl, q⟩)
section
variable {X : Cx}
/-- t * k, k from 1 on -/
def rRepA (K : PySem.W.Frag) : R2 := fun x y H Q => ∃ l k xs, x = .ref l ∧ y = .int k ∧ SqT K H l xs ∧ xs ≠ [] ∧ 1 ≤ k ∧ k ≤ 1000 ∧ xs.length ≤ 1000 ∧ ∀ H' q, Same H H' → SqT K H' q (List.replicate k.toNat xs).flatten → Q (.ref q) H'
theorem repAK (K : PySem.W.Frag) (h : X.K = K := by rfl) : OpR X (binaryOp .Mult) (rRepA K) := by
  subst h
  intro pins s σ H x y v u Q I rx ry hq
  obtain ⟨l, k, xs, rfl, rfl, hT, hne, h1, h2, hz, q⟩ := hq
  by_cases hk : k = 1
  · subst hk
    obtain rfl : v = Value.ref l := rx
    obtain ⟨t, rfl⟩ := ry
    obtain ⟨its, r, ⟨⟨cls, dd, data, sl⟩, ho, hc, n, hd⟩, hs⟩ := I.tuple hT
    simp only at hc hd
    subst hc hd
    refine wpAny_binaryOp_repeat_ref (T := "tuple") (U := "int") (by decide) ⟨_, ho, rfl⟩ (fun s' => typeIs_int s' 1 t) noFill_tuple_mul F.fills_int_mul F.slot_int_rmul repeat_tuple F.slot_int_index.lookup ?_
    refine call_meets F.slot_int_rmul (typeIs_int s 1 t) F.entry_int_rmul (F.args_int_rmul_2 _ _) (int_rmul_tuple 1 t l its.toArray n dd sl) ⟨ho, rfl, ⟨_, ho, rfl⟩, ?_⟩
    refine call_meets F.slot_tuple_mul ⟨_, ho, rfl⟩ F.entry_tuple_mul (F.args_tuple_mul_2 _ _) (mul_once l its.toArray n dd sl t) ⟨ho, ⟨.ref l, H, I, rfl, q H l (Same.refl H) ?_⟩⟩
    have e : (List.replicate (1 : Int).toNat xs).flatten = xs := by simp
    rw [e]; exact hT
  · exact op_repT pins s σ H _ _ v u Q I rx ry ⟨l, k, xs, rfl, rfl, hT, hne, by omega, h2, hz, fun p hp => q _ p ((Same.refl H).new hp) (SqT.of upd_same)⟩
end
def parts : PyData → List PyData
  | .tuple ds => ds
  | _ => []
end LA

set_option maxHeartbeats 4000000
namespace LA
open PySem L2
end LA

set_option maxHeartbeats 4000000
namespace LA
open PySem L2
def oD : Option Nat → PyData
  | none => .none
  | some n => .int (n : Int)
def rD (r : Rw) : PyData := .tuple (r.map oD)
def sD (s : Sd) : PyData := .tuple (s.map rD)
def jD (j : Jd) : PyData := .tuple (j.map sD)
section
variable {K : PySem.W.Frag} {p : Addr} {Z : Addr → Prop} {H : Hp}
theorem paired_dq {α : Type} {R : V → α → Prop} {f : α → PyData} (h : ∀ v x, R v x → Dq K p Z H v (f x)) : ∀ {vs : List V} {xs : List α}, Paired R vs xs → DqAll K p Z H vs (xs.map f)
  | _, _, .nil => .nil
  | _, _, .cons r t => .cons (h _ _ r) (paired_dq h t)
theorem entries_dq : ∀ r : Rw, DqAll K p Z H (r.map oV) (r.map oD)
  | [] => .nil
  | none :: r => .cons .non (entries_dq r)
  | some n :: r => .cons (.int _) (entries_dq r)
theorem RowAt.dq {v : V} {r : Rw} (h : RowAt K H v r) : Dq K p Z H v (rD r) := by
  obtain ⟨a, rfl, q⟩ := h
  exact .tup q (entries_dq r)
theorem StAt.dq {v : V} {s : Sd} (h : StAt K H v s) : Dq K p Z H v (sD s) := by
  obtain ⟨a, vs, rfl, q, t⟩ := h
  exact .tup q (paired_dq (fun _ _ x => x.dq) t)
theorem JAt.dq {v : V} {j : Jd} (h : JAt K H v j) : Dq K p Z H v (jD j) := by
  obtain ⟨a, vs, rfl, q, t⟩ := h
  exact .tup q (paired_dq (fun _ _ x => x.dq) t)
end
/-- a list of any values that is itself one of Z -/
theorem VL.push {K : PySem.W.Frag} {p : Addr} {N S E : Nat} {H : Hp} {l : Addr} {vs : List V} {ds : List PyData} {v : V} {d : PyData} (h : VL K p (· = l) N S E H l vs ds) (hv : Dq K p (· = l) H v d) (hb : Bd N S E d) : VL K p (· = l) N S E (upd H l (.lst (vs ++ [v]))) l (vs ++ [v]) (ds ++ [d]) :=
  ⟨upd_same, h.ne, DqAll.own (Z := (· = l)) h.at' rfl _ _ (h.dq.app (.cons hv .nil)), fun x hx => (List.mem_append.mp hx).elim (h.bd x) fun z => by
    have : x = d := by simpa using z
    rw [this]; exact hb⟩
theorem VL.weak {K : PySem.W.Frag} {p : Addr} {Z Z' : Addr → Prop} {N S E : Nat} {H : Hp} {l : Addr} {vs : List V} {ds : List PyData} (h : VL K p Z N S E H l vs ds) (f : ∀ a, Z' a → Z a) : VL K p Z' N S E H l vs ds :=
  ⟨h.at', h.ne, DqAll.weak f _ _ h.dq, h.bd⟩
end LA

set_option maxHeartbeats 4000000
namespace LA
open PySem L2
theorem cut_to {xs : List V} {k : Nat} (h : k ≤ xs.length) : cutV xs none (some (k : Int)) = xs.take k := by
  unfold cutV HT.sIx
  simp
  rw [if_neg (by omega)]
  omega
theorem nonTup {K : PySem.W.Frag} {p : Addr} {Z : Addr → Prop} {H : Hp} {v : V} {d : PyData} (h : Dq K p Z H v d) : isTup d = false ∨ ∃ a xs ds, v = .ref a ∧ d = .tuple ds ∧ SqT K H a xs ∧ DqAll K p Z H xs ds := by
  cases h with
  | tup hs ha => exact .inr ⟨_, _, _, rfl, rfl, hs, ha⟩
  | _ => exact .inl rfl
end LA

set_option maxHeartbeats 4000000
namespace LA
open PySem PySem.Spec PyProof.Rows L2
open AutoSeq1 (wpAny_loadPart')
theorem PotAt.same {H H' : Hp} {p : Addr} {n : Nat} (h : PotAt H p n) (s : Same H H') : PotAt H' p n := by
  obtain ⟨a, b, c, h1, r⟩ := h
  exact ⟨a, b, c, s _ _ h1, r⟩
theorem szl {n : Nat} (h : n ≤ 1000) : n ≤ sizeLine := Nat.le_trans h (by decide)
theorem sm {H : Hp} {q : Addr} {o : HO} (h : H q = none) : Same H (upd H q o) := (Same.refl H).new h
theorem szl1 {n : Nat} (h : n ≤ 1000) : n < sizeLine := Nat.lt_of_le_of_lt h (by decide)
section
variable {X : Cx}
end
end LA

set_option maxHeartbeats 4000000
namespace LA
open PySem PySem.Spec PyProof.Rows L2
section
variable {P : Program} {w : World} {A : Around} {E : Value → Shared → Prop}
end
structure CalK (P : Program) (w : World) (K : PySem.W.Frag) (mg : Str → Option Value) (base : Heap) (k : Nat) (x : Str) (sp : Sp) (ks : List Str) (gV : List V → List V → List V) : Prop where
  ex : ∃ f fd ps g, FnOk P w K mg base CX0 k f fd ps sp ∧ mg x = some (Value.ref f) ∧ PySem.W.keepIn K (.ref f) = true ∧ KBinds K fd ps ks g gV
theorem vals_app : ∀ {vs : List V} {us : List Value} {zs : List V} {ws : List Value}, Vals vs us → Vals zs ws → Vals (vs ++ zs) (us ++ ws)
  | _, _, _, _, .nil, k => k
  | _, _, _, _, .cons r h, k => .cons r (vals_app h k)
theorem vals_rev : ∀ {vs : List V} {us : List Value}, Vals vs us → Vals vs.reverse us.reverse
  | _, _, .nil => .nil
  | _, _, .cons r h => by rw [List.reverse_cons, List.reverse_cons]; exact vals_app (vals_rev h) (.cons r .nil)
/-- two arguments, the other way round -/
def swapV {α : Type} (us ws : List α) : List α := match us with
  | [] => ws.reverse
  | _ => []
theorem swap_rel {vs : List V} {us : List Value} {zs : List V} {ws : List Value} (h : Vals vs us) (k : Vals zs ws) : Vals (swapV vs zs) (swapV us ws) := by
  cases h with
  | nil => exact vals_rev k
  | cons _ _ => exact .nil
theorem kbinds {K : PySem.W.Frag} {x qual : Str} {st : Stmt} {f : Addr} {fd : FuncData} {ps ks : List Str} (F : Fun K x qual st f fd) (hp : 0 < ps.length)
    (h : ∀ (kV doc pm : Value) (an : Option Addr) (cdv ct : Value) (ws : List Value), ws.length = ps.length → bindArgs (PySem.W.fnOf x qual (defArgs st) (defBody st) (defScope st) Value.none kV doc pm an cdv ct) { pos := [], kw := ks.zip ws } = pure (ps.zip ws.reverse)) : KBinds K fd ps ks swapV swapV := by
  obtain ⟨oc, od, kV, doc, pm, an, cdv, ct, osl, rfl, _⟩ := F.ex
  refine ⟨fun s us ws _ hl => ?_, swap_rel⟩
  cases us with
  | nil => exact BindsTo.of_eq (h kV doc pm an cdv ct ws (by simpa [swapV] using hl))
  | cons u us => exact absurd hl (by simp only [swapV, List.length_nil]; omega)
end LA

set_option maxHeartbeats 4000000
namespace LA
open PySem PySem.Spec PyProof.Rows L2
/-- at a: an exception of the class cls, its dict at d -/
def kept (a : Addr) (cls : Value) (d : Option Addr) : HO := .ext fun h => ∃ (oe : Obj) (vs : Array Value), h.get? a = some oe ∧ Zc cls d oe ∧ oe.data = .fields vs
section
variable {X : Cx} {pins : List (Addr × Obj)} {σ : L2.St} {H : Hp} {s : Shared} {a : Addr} {o : HO}
/-- a thing that came up since the entry and is not held yet is held from now on -/
theorem hold (I : Inv X pins σ H s) (hn : H a = none) (h0 : X.s_0.heap.get? a = none) (nL : a ≠ X.env.locals) (nc : ∀ y c, X.env.cells.lookup y = some c → c ≠ a) (np : ∀ q ∈ X.pn ++ pins, q.1 ≠ a) (new : ObjOk X.prog X.w (upd H a o) s.heap a o) :
    Inv X pins σ (upd H a o) s := by
  have up : ∀ {b : Addr} {u : HO}, H b = some u → upd H a o b = some u := fun {b u} e => (upd_ne (ne_of_none e hn)).trans e
  refine ⟨I.ok, I.os, I.bare, ⟨I.base.keep, I.base.slot, fun b u e n hx => ?_, I.base.there, fun b xs e => up (I.base.tups b xs e), fun b ob u e => up (I.base.frzs b ob u e), fun b ps e => ?_⟩, I.loc, I.cell, ?_, fun y c e => ?_, fun q hq => ?_, fun b u e => ?_, I.len⟩
  · have nb : b ≠ a := fun z => by rw [z, h0] at e; cases e
    rw [upd_ne nb]; exact I.base.free b u e n hx
  · obtain ⟨more, q⟩ := I.base.tbls b ps e
    exact ⟨more, up q⟩
  · rw [upd_ne (Ne.symm nL)]; exact I.free
  · rw [upd_ne (nc y c e)]; exact I.freeC y c e
  · obtain ⟨q1, q2, q3, q4, q5⟩ := I.pin q hq
    exact ⟨q1, by rw [upd_ne (np q hq)]; exact q2, q3, q4, q5⟩
  · by_cases hb : b = a
    · subst hb; rw [upd_same] at e; cases e; exact new
    · rw [upd_ne hb] at e
      exact (I.hok b u e).stay (fun _ _ _ q => q) (fun _ q => up q) fun _ _ q => up q
end
section
variable {X : Cx} {x n : Str} {c : Value} {i : Nat} {body suite : List Stmt} {b₀ : Stmt} {np pos pos' : Pos} {tb : WX → TS} {ts : Addr → Value → Option Addr → TS} {Wout : WX}
end
end LA

set_option maxHeartbeats 4000000
namespace LA
open PySem PySem.Spec PyProof.Rows L2
/-- what the written part says of an own exception class at C -/
structure XC (K : PySem.W.Frag) (C : Addr) : Prop where
  ox : OexC K C
  cl : (PySem.W.clsIn K C).isSome = true
  ga : PySem.W.findIn K (.ref C) "__getattribute__" = some (some (.builtin "BaseException.__getattribute__"))
  gg : PySem.W.findIn K (.ref C) "__getattr__" = some none
  hd : PySem.W.hasDictIn K C = true
  ca : PySem.W.findIn K (.ref C) "__class__" = some (some (.builtin "object.__class__"))
  cn : PySem.W.specialIn K (.builtin "object.__class__") "__get__" = some (some (.builtin "getset_descriptor.__get__"))
  ct : PySem.W.takesIn K (.builtin "object.__class__") = some true
  mo : PySem.W.mroIn K C (.type "object") = some true
/-- an exception kept at a, of the class at C, with its fields -/
structure Kept (K : PySem.W.Frag) (H : Hp) (a C : Addr) (fs : List (Str × V)) : Prop where
  ex : ∃ dd, H a = some (kept a (.ref C) (some dd)) ∧ H dd = some (.xd fs)
  xc : XC K C
theorem Kept.same {K : PySem.W.Frag} {H H' : Hp} {a C : Addr} {fs : List (Str × V)} (h : Kept K H a C fs) (s : Same H H') : Kept K H' a C fs := by
  obtain ⟨dd, h1, h2⟩ := h.ex
  exact ⟨⟨dd, s _ _ h1, s _ _ h2⟩, h.xc⟩
section
variable {X : Cx} {K : PySem.W.Frag}
end
section
variable {X : Cx}
end
end LA

set_option maxHeartbeats 4000000
namespace LA
open PySem PySem.Spec PyProof.Rows L2
end LA
namespace LA
open PySem PySem.Spec PyProof.Rows L2
end LA

set_option maxHeartbeats 2000000
namespace LA
open PySem PySem.Spec PyProof.Rows L2
/-- a tuple without a dict of its own -/
def TupD (H : Hp) (a : Addr) (ys : List V) : Prop := ∃ o : Obj, H a = some (.frz o (.tup ys)) ∧ o.dict = none
theorem TupD.sq {K : PySem.W.Frag} {H : Hp} {a : Addr} {ys : List V} (h : TupD H a ys) : SqT K H a ys := let ⟨o, e, _⟩ := h; .inl (.inr ⟨o, e⟩)
theorem TupD.upd {H : Hp} {a : Addr} {o : Obj} {ys : List V} (h : o.dict = none) : TupD (upd H a (.frz o (.tup ys))) a ys := ⟨o, upd_same, h⟩
section
variable {X : Cx} {e : Expr} {es : List Expr} {to : TE} {t : TA} {name : Str} {apos cpos pos : Pos}
variable {o : Expr}
end
end LA

set_option maxHeartbeats 4000000
namespace LA
open PySem PySem.Spec PyProof.Rows L2
/-- a clause's turn: the next item, its store, the tests, the body (which ends in going on) -/
abbrev turnC (tg : Expr) (ip : Pos) (ifs : List Expr) (it : Value) (env : Env) (body nxt : Sem Fin) : Sem Fin := do
  standAt ip
  match ← pyNext it with
  | none => pure (.done .next)
  | some v =>
    letOwnedTupleGo tg it v
    assign tg env v
    let mut ok := true
    for c in ifs do if ok then ok ← isTrue c env (eval c env)
    if ok then body else nxt
/-- what a body's reading is: from slots and heap to the next turn's heap -/
abbrev TB := L2.St → Hp → (Hp → Prop) → Prop
/-- a body keeps its reading: slots but those of vb stay -/
def PB (Y : Cx) (body nxt : Sem Fin) (vb : List Nat) (B : TB) : Prop := ∀ (pins : List (Addr × Obj)) (s : Shared) (σ : L2.St) (H : Hp) (Q : Hp → Prop) (Z : Fin → Shared → Prop) (E : Value → Shared → Prop), Inv Y pins σ H s → B σ H Q →
  (∀ (s' : Shared) (H' : Hp), Inv Y pins (wipe σ vb) H' s' → Q H' → wpAny (model Y.prog Y.w) Y.A nxt Z E s') → wpAny (model Y.prog Y.w) Y.A body Z E s
/-- the walk of a clause -/
def WalkOf (J : It) (g : TG) (tt : TT) (B : TB) (vs : List Nat) (σ : L2.St) (H0 : Hp) (Qd : Hp → Prop) : Prop :=
  ∃ W : Nat → Nat → Hp → Prop, (∃ m, W 0 m H0) ∧ ∀ i m H, W i m H → (J.stop i H ∧ Qd H) ∨ (J.go i H ∧ ∃ Nx : Hp → Prop, (∀ H', Nx H' → ∃ m', m' < m ∧ W (i + 1) m' H') ∧
    ∀ x H', J.yld i H x H' → g x (wipe σ vs) H' fun σ2 H2 => wipe σ2 vs = wipe σ vs ∧ tt σ2 H2 fun b H3 => if b = true then B σ2 H3 Nx else Nx H3)
theorem walk_by {J : It} {n : Nat} {G : Hp → Prop} {Y : Nat → Hp → V → Hp → Prop} (hw : Walk J n G Y) {g : TG} {tt : TT} {B : TB} {vs : List Nat} {σ : L2.St} {H0 : Hp} {Qd : Hp → Prop} (Pv : Nat → Hp → Prop) (h0 : Pv 0 H0) (hG : ∀ i H, i ≤ n → Pv i H → G H)
    (step : ∀ i x H H', i < n → Pv i H → Y i H x H' → g x (wipe σ vs) H' fun σ2 H2 => wipe σ2 vs = wipe σ vs ∧ tt σ2 H2 fun b H3 => if b = true then B σ2 H3 (Pv (i + 1)) else Pv (i + 1) H3) (fin : ∀ H, Pv n H → Qd H) : WalkOf J g tt B vs σ H0 Qd := by
  obtain ⟨w1, w2, w3⟩ := hw
  refine ⟨fun i m H => (i ≤ n ∧ m = n - i) ∧ Pv i H, ⟨n - 0, ⟨Nat.zero_le n, rfl⟩, h0⟩, fun i m H h => ?_⟩
  obtain ⟨⟨hi, em⟩, hp⟩ := h
  subst em
  have hg := hG i H hi hp
  rcases Nat.lt_or_ge i n with lt | ge
  · refine .inr ⟨w1 i H lt hg, Pv (i + 1), fun H' h' => ⟨n - (i + 1), Nat.sub_lt_sub_left lt (Nat.lt_succ_self i), ⟨lt, rfl⟩, h'⟩, fun x H' hy => ?_⟩
    exact step i x H H' lt hp (w3 i H x H' lt hg hy)
  · obtain rfl : i = n := Nat.le_antisymm hi ge
    exact .inl ⟨w2 H hg, fin H hp⟩
/-- no generator expression: its turns are no frames of their own -/
structure PlainC (e : Expr) : Prop where
  den : ∀ (P : Program) (w : World) (lv : Nat) (it acc : Value) (env : Env), (model P w).den (.compLoop e lv it acc env) = (compTurn e lv it acc env).onRaise (fun x => do noteFrame x env; theTreesLotGoes x)
  und : ∀ (A : Around) (lv : Nat) (it acc : Value) (env : Env), A.under (.compLoop e lv it acc env) = A
  den0 : ∀ (P : Program) (w : World) (lv : Nat) (it acc : Value) (env : Env), (model P w).den (.compStart e lv it acc env) = (compStart e lv it acc env).onRaise (fun x => do noteFrame x env; standAt theWindowsPlace)
  und0 : ∀ (A : Around) (lv : Nat) (it acc : Value) (env : Env), A.under (.compStart e lv it acc env) = A
theorem plain_set (elt : Expr) (gs : List Comprehension) (sc : Scope) (pos : Pos) : PlainC (.SetComp elt gs sc pos) := ⟨fun _ _ _ _ _ _ => rfl, fun _ _ _ _ _ => rfl, fun _ _ _ _ _ _ => rfl, fun _ _ _ _ _ => rfl⟩
section
variable {Y : Cx} {e : Expr} {lv : Nat} {it : Addr} {acc : Value}
theorem loopC {tg : Expr} {ip : Pos} {ifs : List Expr} {J : It} {fp : List Addr} {tn : Nat → Heap → Prop} {g : TG} {tt : TT} {B : TB} {body : Sem Fin} {vs vb : List Nat} {σ : L2.St} {pins : List (Addr × Obj)} {R : Result → Shared → Prop} {H0 : Hp} {s0 : Shared} {Qd : Hp → Prop}
    (hp : PlainC e) (hc : Y.calm = true) (hx : Y.xe = fun _ _ => False) (hT : compTurn e lv (.ref it) acc Y.env = turnC tg ip ifs (.ref it) Y.env body (again (.compLoop e lv (.ref it) acc Y.env)))
    (T : Turn Y.prog Y.w Y.K tg J fp it tn) (pg : PG Y tg g) (pt : PTs Y ifs tt) (pb : PB Y body (again (.compLoop e lv (.ref it) acc Y.env)) vb B) (hv : ∀ i ∈ vb, i ∈ vs)
    (fok : ∀ H', (∀ b ∈ fp, H' b = none) → ∀ b ∈ fp, FpOk Y pins H' b) (hW : WalkOf J g tt B vs σ H0 Qd) (fin : ∀ s' H', Inv Y pins (wipe σ vs) H' s' → Qd H' → R (.ok .next) s')
    (I0 : Inv Y pins (wipe σ vs) H0 s0) (st0 : tn 0 s0.heap) (nf0 : ∀ b ∈ fp, H0 b = none) : codeAny (model Y.prog Y.w) Y.A (.compLoop e lv (.ref it) acc Y.env) R s0 := by
  obtain ⟨W, ⟨m0, w0⟩, turn⟩ := hW
  refine codeAny_loop rfl (fun m s => ∃ i H, (Inv Y pins (wipe σ vs) H s ∧ tn i s.heap) ∧ (∀ b ∈ fp, H b = none) ∧ W i m H) (fun m s h => ?_) m0 ⟨0, H0, ⟨I0, st0⟩, nf0, w0⟩
  obtain ⟨i, H, ⟨I, st⟩, nf, wi⟩ := h
  rw [hp.den, hp.und]
  refine wpAny_noted ?_
  rw [hT]
  refine wpAny_bind (wpAny_standAt (wpAny_bind ?_))
  have fo := fok H nf
  rcases turn i m H wi with ⟨stop, hq⟩ | ⟨go, Nx, hNx, step⟩
  · refine thnF (T.done Y rfl rfl rfl hc i pins s _ H (fun _ _ => False) I fo st stop) fun r s1 hr => ?_
    obtain ⟨rfl, I1⟩ := hr
    exact wpAny_pure (fin s1 H I1 hq)
  · refine thnF (T.item Y rfl rfl rfl hc i pins s _ H (fun _ _ => False) I fo st go) fun r s1 hr => ?_
    obtain ⟨u, rfl, h1⟩ := hr
    refine wpAny_bind (thnF h1 fun _ s2 h2 => ?_)
    obtain ⟨x, H2, I2, rx, yx, st2, nf2⟩ := h2
    have I2' := I2.pinned (fok H2 nf2) (T.obj _ _ st2)
    have pgr := pg.run _ s2 _ H2 x u _ I2' rx (step x H2 yx)
    rw [hx] at pgr
    refine wpAny_bind (thnF pgr fun _ s3 h3 => ?_)
    obtain ⟨σ3, H3, I3, hw3, q3⟩ := h3
    have ptr := pt.run _ s3 σ3 H3 _ I3 q3
    rw [hx] at ptr
    refine wpAny_bind (thnF ptr fun b s4 h4 => ?_)
    obtain ⟨H4, I4, q4⟩ := h4
    have back : ∀ {τ : L2.St} {s' : Shared} {H' : Hp}, Inv Y (pins ++ pinsAt fp s2.heap) τ H' s' → (wipe σ vs).length = τ.length → (∀ (j : Nat) v, (wipe σ vs)[j]? = some (some v) → τ[j]? = some (some v)) → Nx H' →
        wpAny (model Y.prog Y.w) Y.A (again (.compLoop e lv (.ref it) acc Y.env)) (fun fin s' => match fin with
          | .done f => R (.ok f) s'
          | .again c' => c' = .compLoop e lv (.ref it) acc Y.env ∧ ∃ m', m' < m ∧ ∃ i H, (Inv Y pins (wipe σ vs) H s' ∧ tn i s'.heap) ∧ (∀ b ∈ fp, H b = none) ∧ W i m' H) (notedBy (model Y.prog Y.w) Y.A Y.env fun e s' => R (.error e) s') s' := by
      intro τ s' H' I' hl hk nx
      obtain ⟨m', lt, w'⟩ := hNx H' nx
      have held : ∀ b ∈ fp, ∀ o, s2.heap.get? b = some o → s'.heap.get? b = some o ∧ H' b = none := fun b hb o ho => by
        have z := I'.pin (b, o) (List.mem_append_right _ (List.mem_append_right _ (mem_pinsAt hb ho)))
        exact ⟨z.1, z.2.1⟩
      refine wpAny_pure ⟨rfl, m', lt, i + 1, H', ⟨I'.unpinned.weak hl hk, T.keep _ _ _ st2 fun b hb o ho => (held b hb o ho).1⟩, fun b hb => ?_, w'⟩
      obtain ⟨o, ho, _⟩ := T.obj _ _ st2 b hb
      exact (held b hb o ho).2
    have l3 : (wipe σ vs).length = σ3.length := by rw [← hw3, wipe_length]
    have k3 : ∀ (j : Nat) v, (wipe σ vs)[j]? = some (some v) → σ3[j]? = some (some v) ∧ j ∉ vs := fun j v hj => by
      rw [← hw3] at hj
      exact wipe_some hj
    cases b with
    | false => exact back I4 l3 (fun j v hj => (k3 j v hj).1) q4
    | true =>
      refine pb _ s4 σ3 H4 Nx _ _ I4 q4 fun s5 H5 I5 nx => back I5 (l3.trans (wipe_length σ3 vb).symm) (fun j v hj => ?_) nx
      obtain ⟨a1, a2⟩ := k3 j v hj
      rw [wipe_out fun z => a2 (hv j z)]
      exact a1
/-- a clause starts by asking its iterator for an iterator -/
theorem startC {env : Env} {A : Around} {P : Program} {w : World} {R : Result → Shared → Prop} {s : Shared} {itv : Value} {c : Comprehension} (hp : PlainC e) (hcl : (clausesOf e)[lv]? = some c) (ha : c.is_async = 0) (h0 : codeAny (model P w) A (.compLoop e lv itv acc env) R s)
    (h1 : wpAny (model P w) A (pyIter itv) (fun it' s' => codeAny (model P w) A (.compLoop e lv it' acc env) R s') (notedBy (model P w) A env fun x s' => R (.error x) s') s) : codeAny (model P w) A (.compStart e lv itv acc env) R s := by
  refine codeAny_of_tree ?_
  rw [hp.den0, hp.und0]
  refine wpAny_notedAt ?_
  unfold compStart
  rw [hcl]
  simp only [Option.elim, ha]
  show wpAny _ _ (ask >>= _) _ _ s
  refine wpAny_bind (wpAny_askSetting (wpAny_ite ?_))
  split
  · first
      | exact wpAny_bind (wpAny_pure (wpAny_pure ⟨rfl, h0⟩))
      | exact wpAny_pure ⟨rfl, h0⟩
  · have h2 := wpAny_mono h1 (fun it' s' h' => (wpAny_pure (And.intro rfl h') : wpAny (model P w) A (again (.compLoop e lv it' acc env)) (fun fin s' => match fin with
          | .done f => R (.ok f) s'
          | .again c' => c'.quiet = true ∧ codeAny (model P w) A c' R s') (notedBy (model P w) A env fun x s' => R (.error x) s') s')) fun _ _ x => x
    first
      | exact wpAny_bind (wpAny_rule (wpAny_bind (wpAny_standAt (wpAny_bind h2))))
      | exact wpAny_bind (wpAny_rule (wpAny_standAt (wpAny_bind h2)))
end
end LA

set_option maxHeartbeats 4000000
namespace LA
open PySem PySem.Spec PyProof.Rows L2
section
variable {X : Cx}
/-- a comprehension's reading: o0 what the new object is at the start, B the first clause's body -/
def tCo (o0 : Addr → HO) (wi : TI) (g : TG) (tt : TT) (B : Addr → TB) (vs : List Nat) : TE := fun σ H Q => wi σ H fun J H1 => ∀ D, H1 D = none → WalkOf J g tt (B D) vs σ (upd H1 D (o0 D)) (Q (.ref D))
/-- a second clause as a body -/
def bIn (wi : TI) (g : TG) (tt : TT) (B : Addr → TB) (vs : List Nat) : Addr → TB := fun D σ H Nx => wi σ H fun J H1 => WalkOf J g tt (B D) vs σ H1 Nx
/-- what is put in as a body -/
def bPut (te : TE) (put : Addr → V → Hp → (Hp → Prop) → Prop) : Addr → TB := fun D σ H Nx => te σ H fun y H1 => put D y H1 Nx
theorem coreC {pins : List (Addr × Obj)} {s : Shared} {σ : L2.St} {H : Hp} {Q : VK} {e tg iter : Expr} {ifs : List Expr} {rest : List Comprehension} {scope : Scope} {own : List (Str × Nat)} {pos' : Pos} {wi : TI} {g : TG} {tt : TT} {B : Addr → TB} {body : Value → Value → Env → Sem Fin} {vb : List Nat} {newAcc : Sem Value} {ob : Obj} {o0 : Addr → HO}
    (hp : PlainC e) (hc : X.calm = true) (hN : X.N.Nodup) (hcl : clausesOf e = ⟨tg, iter, ifs, 0⟩ :: rest) (hT : ∀ it acc env, compTurn e 0 it acc env = turnC tg iter.pos ifs it env (body it acc env) (again (.compLoop e 0 it acc env)))
    (hnew : ∀ (s : Shared) (Qn : Value → Shared → Prop), Qn (.ref s.heap.objs.size) { s with heap := s.heap.push ob } → wpAny (model X.prog X.w) X.A newAcc Qn X.xe s) (hob : ∀ (H : Hp) (h : Heap), (h.objs.size == sysModules) = false → ObjOk X.prog X.w H (h.push ob) h.objs.size (o0 h.objs.size))
    (hi : PI X tg iter wi) (ok : BlkOk X.N X.env.scope scope own) (hg : ∀ (s : Shared) (H : Hp) (C : Addr) (cl : List (Str × Addr)) (fp : List Addr), PG (X.blk s H scope (compEnvC scope cl C X.env) fp) tg g)
    (ht : ∀ (s : Shared) (H : Hp) (C : Addr) (cl : List (Str × Addr)) (fp : List Addr), PTs (X.blk s H scope (compEnvC scope cl C X.env) fp) ifs tt)
    (hb : ∀ (s : Shared) (H : Hp) (C : Addr) (cl : List (Str × Addr)) (fp : List Addr) (D : Addr) (it : Value), PB (X.blk s H scope (compEnvC scope cl C X.env) fp) (body it (.ref D) (compEnvC scope cl C X.env)) (again (.compLoop e 0 it (.ref D) (compEnvC scope cl C X.env))) vb (B D))
    (hv : ∀ i ∈ vb, i ∈ own.map (·.2)) (hs : ∀ x, foldedSetIterable iter X.env x = pure x) (I : Inv X pins σ H s) (h : tCo o0 wi g tt B (own.map (·.2)) σ H Q) :
    wpAny (model X.prog X.w) X.A (comprehension e scope X.env pos' newAcc false (eval iter X.env) none) (EP X pins σ Q) X.xe s := by
  have seen : ∀ y ∈ scope.names, y.2 = .free → ∃ c, X.env.cells.lookup y.1 = some c := fun y hy ey => (ok.free y hy ey).elim (fun k => I.ok.has _ (.inl k)) fun k => I.ok.has _ (.inr k)
  refine wpAny_comprehension_free (use := none) hcl hs (closure_ok seen) ok.kind (fun y hy ey => (ok.uniq y hy).trans (congrArg some ey)) (thn (hi.run pins s σ H _ I h) fun xv s1 hx => thn hx fun itv s2 h2 => ?_)
  obtain ⟨it, fp, tn, J, H2, rfl, I2, T, st2, f2, q⟩ := h2
  refine hnew s2 _ (newEnv_comp ?_)
  have free2 : H2 s2.heap.objs.size = none := I2.hok.fresh (Nat.le_refl _)
  have walk := q _ free2
  generalize hD : s2.heap.objs.size = D at walk free2
  generalize e3 : ({ s2 with heap := s2.heap.push ob } : Shared) = s3
  have h3 : s3.heap = s2.heap.push ob := by rw [← e3]
  have I3 : Inv X pins σ (upd H2 D (o0 D)) s3 := by
    rw [← e3, ← hD]
    refine I2.laid (t' := s2.toks) (fun b o ho => Heap.get?_push_of_some _ ho) (Nat.le_refl _) (hob _ _ ?_)
    have big := I2.big
    simp only [beq_eq_false_iff_ne, ne_eq]
    intro z
    rw [z] at big
    exact absurd big (by decide)
  have old : ∀ b ∈ fp, b < s2.heap.objs.size := fun b hb => let ⟨_, ho, _⟩ := T.obj _ _ st2 b hb; Heap.lt_size ho
  have f3 : ∀ b ∈ fp, FpOk X pins (upd H2 D (o0 D)) b ∧ b < s3.heap.objs.size := fun b hb => by
    have l := old b hb
    refine ⟨⟨?_, (f2 b hb).2⟩, by rw [h3, Heap.size_push]; exact Nat.lt_succ_of_lt l⟩
    rw [upd_ne (by rw [← hD]; exact Nat.ne_of_lt l)]
    exact (f2 b hb).1
  have st3 : tn 0 s3.heap := T.keep _ _ _ st2 fun b _ o ho => by rw [h3]; exact Heap.get?_push_of_some _ ho
  have I4 := block_start I3 ok hN f3
  have st4 := T.keep 0 _ (pushCells (s3.heap.push { cls := .type "dict", data := .dict #[] }) scope.names) st3 fun b _ o ho => pushCells_keeps _ _ _ _ (Heap.get?_push_of_some _ ho)
  generalize upd H2 D (o0 D) = H3 at walk I3 I4 f3
  generalize hce : compEnvC scope (cellsFrom (s3.heap.objs.size + 1) scope.names (cloFrom X.env.cells scope.names [])) s3.heap.objs.size X.env = ce at I4
  have lc : ce.locals = s3.heap.objs.size := by rw [← hce]; rfl
  have pg := hg s3 H3 s3.heap.objs.size (cellsFrom (s3.heap.objs.size + 1) scope.names (cloFrom X.env.cells scope.names [])) fp
  have pt := ht s3 H3 s3.heap.objs.size (cellsFrom (s3.heap.objs.size + 1) scope.names (cloFrom X.env.cells scope.names [])) fp
  have pb := hb s3 H3 s3.heap.objs.size (cellsFrom (s3.heap.objs.size + 1) scope.names (cloFrom X.env.cells scope.names [])) fp D (.ref it)
  show codeAny _ _ (.compStart e 0 (.ref it) (.ref D) (compEnvC scope (cellsFrom (s3.heap.objs.size + 1) scope.names (cloFrom X.env.cells scope.names [])) s3.heap.objs.size X.env)) (compPost (model X.prog X.w) X.A X.xe none (EP X pins σ Q) (.ref D) s3.heap.objs.size) { s3 with heap := pushCells (s3.heap.push { cls := .type "dict", data := .dict #[] }) scope.names }
  rw [hce] at pg pt pb ⊢
  generalize e4 : ({ s3 with heap := pushCells (s3.heap.push { cls := .type "dict", data := .dict #[] }) scope.names } : Shared) = s4 at I4 ⊢
  have st4 : tn 0 s4.heap := by rw [← e4]; exact st4
  have loop : codeAny (model X.prog X.w) X.A (.compLoop e 0 (.ref it) (.ref D) ce) (compPost (model X.prog X.w) X.A X.xe none (EP X pins σ Q) (.ref D) s3.heap.objs.size) s4 := by
    refine loopC (Y := X.blk s3 H3 scope ce fp) (pins := []) hp hc rfl (hT _ _ _) T pg pt pb hv (fun H' nf b hb => ?_) walk (fun s5 H5 I5 q5 => ?_) I4 st4 fun b hb => (f3 b hb).1.1
    · exact ⟨nf b hb, (I4.ok.exf b hb).1, I4.ok.exfs b hb, .inl hb, (I4.ok.exf b hb).2, fun p hp => nomatch (show p ∈ ([] : List (Addr × Obj)) ++ [] from hp)⟩
    · have I6 : Inv X pins σ H5 s5 := I3.call' (ch := fp) I5.os I5.base I5.hok I5.bare fun b hb => let z := (f3 b hb).1; ⟨z.2.2.2.1, z.2.1, z.2.2.2.2.1, z.2.2.2.2.2⟩
      have none5 : H5 s3.heap.objs.size = none := by rw [← lc]; exact I5.free
      obtain ⟨m, ns, _⟩ := I5.loc
      obtain ⟨z0, z1, z2, z3, z4, z5⟩ := I3.fpOk (Nat.le_refl _) none5
      refine ⟨m, by rw [← lc]; exact ns, fun h' sb => ⟨.ref D, H5, I6.turned (t' := s5.toks) (fun b o hb ho => (sb.2 b hb).trans ho) z0 z1 z3 z4 z5, rfl, q5⟩⟩
  exact startC hp (by rw [hcl]; rfl) rfl loop (T.self X.A 0 _ _ _ st4 loop)
end
end LA

set_option maxHeartbeats 4000000
namespace LA
open PySem PySem.Spec PyProof.Rows L2
/-- set.add as a body, by what the method does -/
def putM (r : V → List V → Hp → VK → Prop) : Addr → V → Hp → (Hp → Prop) → Prop := fun D y H Nx => r (.ref D) [y] H fun _ H' => Nx H'
theorem pb_set {Y : Cx} {elt : Expr} {te : TE} {r : V → List V → Hp → VK → Prop} {D : Addr} {nxt : Sem Fin} (hx : Y.xe = fun _ _ => False) (he : PE Y elt te) (hm : MtR Y "set.add" r) :
    PB Y (do (do let v ← eval elt Y.env; standAt elt.pos; let _ ← call (.builtin "set.add") [.ref D, v]); nxt) nxt [] (bPut te (putM r) D) := by
  intro pins s σ H Q Z E I h k
  have er := he.run pins s σ H _ I h
  rw [hx] at er
  refine wpAny_bind (wpAny_bind (thnF er fun v s1 h1 => ?_))
  obtain ⟨y, H1, I1, ry, q1⟩ := h1
  have mr := hm pins s1 σ H1 (.ref D) [y] (.ref D) [v] _ I1 rfl (.cons ry .nil) q1
  rw [hx] at mr
  refine wpAny_bind (wpAny_standAt (wpAny_bind (thnF mr fun _ s2 h2 => ?_)))
  obtain ⟨_, H2, I2, _, q2⟩ := h2
  exact wpAny_pure (k s2 H2 I2 q2)
/-- a further clause as a body -/
theorem pb_in {Y : Cx} {e tg iter : Expr} {ifs : List Expr} {lv : Nat} {D : Addr} {nxt : Sem Fin} {wi : TI} {g : TG} {tt : TT} {B : Addr → TB} {vs vb : List Nat} {body : Value → Sem Fin} (hp : PlainC e) (hc : Y.calm = true) (hx : Y.xe = fun _ _ => False) (hcl : (clausesOf e)[lv]? = some ⟨tg, iter, ifs, 0⟩)
    (hT : ∀ it, compTurn e lv it (.ref D) Y.env = turnC tg iter.pos ifs it Y.env (body it) (again (.compLoop e lv it (.ref D) Y.env)))
    (hi : PI Y tg iter wi) (pg : PG Y tg g) (pt : PTs Y ifs tt) (pb : ∀ it, PB Y (body it) (again (.compLoop e lv it (.ref D) Y.env)) vb (B D)) (hv : ∀ i ∈ vb, i ∈ vs) (hs : ∀ x, foldedSetIterable iter Y.env x = pure x) :
    PB Y (do let x ← eval iter Y.env; standAt iter.pos; let x ← foldedSetIterable iter Y.env x; let _ ← runOwn (.compStart e lv (← holding [x] (pyIter x)) (.ref D) Y.env) Y.env; nxt) nxt vs (bIn wi g tt B vs D) := by
  intro pins s σ H Q Z E I h k
  have ir := hi.run pins s σ H _ I h
  rw [hx] at ir
  refine wpAny_bind (thnF ir fun xv s1 h1 => wpAny_bind (wpAny_standAt (wpAny_bind (wpAny_of_eq (hs xv) (wpAny_bind (wpAny_holding (thnF h1 fun itv s2 h2 => ?_)))))))
  obtain ⟨it, fp, tn, J, H2, rfl, I2, T, st2, f2, walk⟩ := h2
  refine wpAny_bind (wpAny_runOwn ?_)
  rw [Around.mark_none]
  have loop : codeAny (model Y.prog Y.w) Y.A (.compLoop e lv (.ref it) (.ref D) Y.env) (fun r s' => match r with
      | .ok _ => wpAny (model Y.prog Y.w) Y.A nxt Z E s'
      | .error _ => False) s2 := by
    refine loopC (R := fun r s' => match r with
      | .ok _ => wpAny (model Y.prog Y.w) Y.A nxt Z E s'
      | .error _ => False) hp hc hx (hT _) T pg pt (pb _) hv (fun H' nf b hb => ⟨nf b hb, (f2 b hb).2⟩) walk (fun s' H' I' q' => k s' H' I' q') (I2.weak (wipe_length _ _) fun j v hj => (wipe_some hj).1) st2 fun b hb => (f2 b hb).1
  refine codeAny_mono (startC hp hcl rfl loop (T.self Y.A 0 _ _ _ st2 loop)) fun r s' hr => ?_
  cases r with
  | ok f =>
    first
      | exact hr
      | exact wpAny_pure hr
  | error x => exact hr.elim
section
variable {X : Cx}
abbrev AllB (X : Cx) (scope : Scope) (p : Cx → Prop) : Prop := ∀ (s : Shared) (H : Hp) (C : Addr) (cl : List (Str × Addr)) (fp : List Addr), p (X.blk s H scope (compEnvC scope cl C X.env) fp)
/-- {elt for tg in iter if ..}: ints -/
theorem pe_sci {elt tg iter : Expr} {ifs : List Expr} {scope : Scope} {own : List (Str × Nat)} {pos : Pos} {wi : TI} {g : TG} {tt : TT} {te : TE} (w : World) (hc : X.calm = true) (hN : X.N.Nodup) (hi : PI X tg iter wi) (ok : BlkOk X.N X.env.scope scope own)
    (hg : AllB X scope fun Y => PG Y tg g) (ht : AllB X scope fun Y => PTs Y ifs tt) (he : AllB X scope fun Y => PE Y elt te) (hs : ∀ x, foldedSetIterable iter X.env x = pure x := by intro _; rfl) (hw : X.w = w := by rfl) :
    PE X (.SetComp elt [⟨tg, iter, ifs, 0⟩] scope pos) (tCo (fun D => SetO w D (fun _ => false) 0) wi g tt (bPut te (putM (rSAdd w))) (own.map (·.2))) := by
  subst hw
  refine ⟨fun pins s σ H Q I h => ?_⟩
  show wpAny _ _ (comprehension (.SetComp elt [⟨tg, iter, ifs, 0⟩] scope pos) scope X.env _ (newSet (.type "set")) false (eval iter X.env) none) _ _ s
  exact coreC (vb := []) (body := fun it acc env => do (do let v ← eval elt env; standAt elt.pos; let _ ← call (.builtin "set.add") [acc, v]); again (.compLoop (.SetComp elt [⟨tg, iter, ifs, 0⟩] scope pos) 0 it acc env)) (plain_set _ _ _ _) hc hN rfl (fun it acc env => by rfl)
    (fun s Qn hq => PpSet.newSet_ok hq) (fun H h _ => setO_new (setR_fresh X.w)) hi ok hg ht (fun s H C cl fp D it => pb_set rfl (he s H C cl fp) mt_sadd) (fun i hi => nomatch hi) hs I h
/-- {elt for tg in iter if .. for tg1 in iter1 if ..}: ints -/
theorem pe_sci2 {elt tg iter tg1 iter1 : Expr} {ifs ifs1 : List Expr} {scope : Scope} {own : List (Str × Nat)} {pos : Pos} {wi wi1 : TI} {g g1 : TG} {tt tt1 : TT} {te : TE} {vs1 : List Nat} (w : World) (hc : X.calm = true) (hN : X.N.Nodup) (hi : PI X tg iter wi) (ok : BlkOk X.N X.env.scope scope own) (hv : ∀ i ∈ vs1, i ∈ own.map (·.2))
    (hg : AllB X scope fun Y => PG Y tg g) (ht : AllB X scope fun Y => PTs Y ifs tt) (hi1 : AllB X scope fun Y => PI Y tg1 iter1 wi1) (hg1 : AllB X scope fun Y => PG Y tg1 g1) (ht1 : AllB X scope fun Y => PTs Y ifs1 tt1) (he : AllB X scope fun Y => PE Y elt te)
    (hs : ∀ x, foldedSetIterable iter X.env x = pure x := by intro _; rfl) (hs1 : ∀ env x, foldedSetIterable iter1 env x = pure x := by intro _ _; rfl) (hw : X.w = w := by rfl) :
    PE X (.SetComp elt [⟨tg, iter, ifs, 0⟩, ⟨tg1, iter1, ifs1, 0⟩] scope pos) (tCo (fun D => SetO w D (fun _ => false) 0) wi g tt (bIn wi1 g1 tt1 (bPut te (putM (rSAdd w))) vs1) (own.map (·.2))) := by
  subst hw
  refine ⟨fun pins s σ H Q I h => ?_⟩
  show wpAny _ _ (comprehension (.SetComp elt [⟨tg, iter, ifs, 0⟩, ⟨tg1, iter1, ifs1, 0⟩] scope pos) scope X.env _ (newSet (.type "set")) false (eval iter X.env) none) _ _ s
  exact coreC (vb := vs1) (body := fun it acc env => do let x ← eval iter1 env; standAt iter1.pos; let x ← foldedSetIterable iter1 env x; let _ ← runOwn (.compStart (.SetComp elt [⟨tg, iter, ifs, 0⟩, ⟨tg1, iter1, ifs1, 0⟩] scope pos) 1 (← holding [x] (pyIter x)) acc env) env; again (.compLoop (.SetComp elt [⟨tg, iter, ifs, 0⟩, ⟨tg1, iter1, ifs1, 0⟩] scope pos) 0 it acc env))
    (plain_set _ _ _ _) hc hN rfl (fun it acc env => by rfl) (fun s Qn hq => PpSet.newSet_ok hq) (fun H h _ => setO_new (setR_fresh X.w)) hi ok hg ht
    (fun s H C cl fp D it => pb_in (lv := 1) (vb := []) (body := fun it => do (do let v ← eval elt (compEnvC scope cl C X.env); standAt elt.pos; let _ ← call (.builtin "set.add") [.ref D, v]); again (.compLoop (.SetComp elt [⟨tg, iter, ifs, 0⟩, ⟨tg1, iter1, ifs1, 0⟩] scope pos) 1 it (.ref D) (compEnvC scope cl C X.env)))
      (plain_set _ _ _ _) hc rfl rfl (fun it => by rfl) (hi1 s H C cl fp) (hg1 s H C cl fp) (ht1 s H C cl fp) (fun it => pb_set rfl (he s H C cl fp) mt_sadd) (fun i hi => nomatch hi) (hs1 _)) hv hs I h
end
end LA

set_option maxHeartbeats 4000000
namespace LA
def rowJ (j : Jd) (s x : Nat) : Rw := (((j[s]?).getD [])[x]?).getD []
def entE (j : Jd) (s x y : Nat) : Option Nat := ((rowJ j s x)[y]?).getD none
end LA

set_option maxHeartbeats 4000000
namespace LA
open PySem PySem.Spec PyProof.Rows L2
section
variable {X : Cx}
end
/-- the class of all errors, at A -/
structure XA (K : PySem.W.Frag) (A : Addr) : Prop where
  cl : (PySem.W.clsIn K A).isSome = true
  ty : PySem.W.typeIn K (.ref A) = some (.type "type")
  ex : PySem.W.subIn K (.ref A) (.type "BaseException") = some true
def chain (A C : Addr) : List Value := [.ref C, .ref A, .type "ValueError", .type "Exception", .type "BaseException", .type "object"]
/-- a child at C -/
structure XO (K : PySem.W.Frag) (A C : Addr) : Prop where
  a : XA K A
  mro : ∃ cd, PySem.W.clsIn K C = some cd ∧ cd.mro = chain A C
  ty : PySem.W.typeIn K (.ref C) = some (.type "type")
section
variable {K : PySem.W.Frag} {A C C' : Addr}
theorem XO.sub (h : XO K A C) (c : Value) : PySem.W.subIn K (.ref C) c = some ((chain A C).contains c) := by
  obtain ⟨cd, e1, e2⟩ := h.mro
  show (PySem.W.clsIn K C).bind (fun cd => if cd.mro.isEmpty then none else some (cd.mro.contains c)) = _
  rw [e1]
  show (if cd.mro.isEmpty = true then none else some (cd.mro.contains c)) = _
  rw [e2, if_neg (by simp [chain])]
theorem XO.cls (h : XO K A C) : (PySem.W.clsIn K C).isSome = true := by obtain ⟨cd, e1, _⟩ := h.mro; rw [e1]; rfl
end
section
variable {X : Cx}
end
section
variable {P : Program} {w : World} {K : PySem.W.Frag} {mg : Str → Option Value} {base : Heap}
end
end LA

set_option maxHeartbeats 4000000
namespace LA
open PySem PySem.Spec PyProof.Rows L2
def curS (b : Bool) (h : Heap) (it a : Addr) (i : Nat) : Prop := match b with | true => h.IsTupleIter it a i | false => h.IsListIter it a i
theorem curS.obj {b : Bool} {h : Heap} {it a : Addr} {i : Nat} (c : curS b h it a i) : ∃ o, h.get? it = some o ∧ ∀ v, o.data ≠ .cell v := by
  cases b
  · obtain ⟨o, e, _, d⟩ := c; exact ⟨o, e, fun v q => by rw [d] at q; cases q⟩
  · obtain ⟨o, e, _, d⟩ := c; exact ⟨o, e, fun v q => by rw [d] at q; cases q⟩
theorem curS.at {b : Bool} {h h' : Heap} {it a : Addr} {i : Nat} (c : curS b h it a i) (k : ∀ o, h.get? it = some o → h'.get? it = some o) : curS b h' it a i := by
  cases b
  · exact Heap.IsListIter.at c k
  · exact Heap.IsTupleIter.at c k
section
variable {X : Cx} {pins : List (Addr × Obj)} {σ : L2.St} {H : Hp} {s : Shared} {b : Bool} {a : Addr} {xs ys : List V}
end
end LA

set_option maxHeartbeats 4000000
namespace LA
open PySem PySem.Spec PyProof.Rows L2
end LA

set_option maxHeartbeats 4000000
namespace LA
open PySem L2
def natD : PyData → Nat
  | .int i => i.toNat
  | _ => 0
theorem nb_int {n : Nat} {d : PyData} (h : isNB n d = true) : ∃ k : Nat, d = .int (k : Int) ∧ k < n ∧ natD d = k := by
  cases d with
  | int i =>
    simp only [isNB, Bool.and_eq_true, decide_eq_true_eq] at h
    exact ⟨i.toNat, by rw [Int.toNat_of_nonneg h.1], by omega, rfl⟩
  | _ => simp [isNB] at h
theorem row_ok {j : Jd} {nx ny s x : Nat} (ij : IsJ j nx ny) (hs : s < j.length) (hx : x < nx) : (rowJ j s x).length = ny ∧ (∀ m, some m ∈ rowJ j s x → m < j.length) ∧ ∃ st, j[s]? = some st ∧ st[x]? = some (rowJ j s x) := by
  have e1 : j[s]? = some j[s] := List.getElem?_eq_getElem hs
  have ok := ij.st j[s] (List.getElem_mem hs)
  have hx' : x < j[s].length := by rw [ok.1]; exact hx
  have e2 : j[s][x]? = some j[s][x] := List.getElem?_eq_getElem hx'
  have e : rowJ j s x = j[s][x] := by unfold rowJ; rw [e1]; show ((j[s][x]?).getD []) = _; rw [e2]; rfl
  rw [e]
  exact ⟨(ok.2 _ (List.getElem_mem hx')).1, (ok.2 _ (List.getElem_mem hx')).2, j[s], e1, e2⟩
/-- the row of a judge at a place -/
theorem JAt.row {K : PySem.W.Frag} {H : Hp} {jv : V} {j : Jd} {nx ny s x : Nat} (h : JAt K H jv j) (ij : IsJ j nx ny) (hs : s < j.length) (hx : x < nx) :
    ∃ (q1 q2 q3 : Addr) (vs us : List V), jv = .ref q1 ∧ SqT K H q1 vs ∧ vs[s]? = some (.ref q2) ∧ SqT K H q2 us ∧ us[x]? = some (.ref q3) ∧ SqT K H q3 ((rowJ j s x).map oV) := by
  obtain ⟨_, _, st, e1, e2⟩ := row_ok ij hs hx
  obtain ⟨q1, vs, rfl, hS, hp⟩ := h
  obtain ⟨v2, f1, q2, us, rfl, hs2, hp2⟩ := paired_at' hp e1
  obtain ⟨v3, f2, q3, rfl, hs3⟩ := paired_at' hp2 e2
  exact ⟨q1, q2, q3, vs, us, rfl, hS, f1, hs2, f2, hs3⟩
/-- the row of a state that stands at i -/
theorem StAt.row {K : PySem.W.Frag} {H : Hp} {v : V} {j : Jd} {st : Sd} {nx ny i x : Nat} (h : StAt K H v st) (e : j[i]? = some st) (ij : IsJ j nx ny) (hx : x < nx) :
    ∃ (q2 q3 : Addr) (us : List V), v = .ref q2 ∧ SqT K H q2 us ∧ us[x]? = some (.ref q3) ∧ SqT K H q3 ((rowJ j i x).map oV) := by
  have hi := (List.getElem?_eq_some_iff.mp e).1
  obtain ⟨_, _, st', e1, e2⟩ := row_ok ij hi hx
  rw [e] at e1
  cases e1
  obtain ⟨q2, us, rfl, hs2, hp2⟩ := h
  obtain ⟨v3, f2, q3, rfl, hs3⟩ := paired_at' hp2 e2
  exact ⟨q2, q3, us, rfl, hs2, f2, hs3⟩
def Word (nx : Nat) (w : List Nat) : Prop := w.length ≤ 100000 ∧ ∀ x ∈ w, x < nx
/-- letters as data -/
theorem lets_word {K : PySem.W.Frag} {p : Addr} {Z : Addr → Prop} {H : Hp} {n : Nat} : ∀ {ds : List PyData} {xs : List V}, DqAll K p Z H xs ds → ds.all (isNB (n : Int)) = true → xs = (ds.map natD).map nV ∧ ∀ y ∈ ds.map natD, y < n
  | [], _, h, _ => by cases h; exact ⟨rfl, nofun⟩
  | d :: ds, _, h, a => by
    cases h with
    | cons h1 h2 =>
      simp only [List.all_cons, Bool.and_eq_true] at a
      obtain ⟨k, rfl, hk, hn⟩ := nb_int a.1
      cases h1
      obtain ⟨e, f⟩ := lets_word h2 a.2
      refine ⟨by rw [List.map_cons, List.map_cons, hn, ← e]; rfl, fun y hy => ?_⟩
      rcases List.mem_cons.mp hy with rfl | hy
      · exact hk
      · exact f y hy
theorem let_tup {lim : Int} {d : PyData} (h : isLet lim d = true) : ∃ ds, d = .tuple ds ∧ ds.all (isNB lim) = true := by
  cases d with
  | tuple ds => exact ⟨ds, rfl, by simpa [isLet] using h⟩
  | _ => simp [isLet] at h
theorem let_word {K : PySem.W.Frag} {p : Addr} {Z : Addr → Prop} {H : Hp} {n : Nat} {v : V} {d : PyData} (h : Dq K p Z H v d) (a : isLet n d = true) (hz : szD d ≤ 100000) : WordAt K H v ((parts d).map natD) ∧ Word n ((parts d).map natD) := by
  obtain ⟨ds, rfl, e⟩ := let_tup a
  cases h with
  | @tup q xs _ hs ha =>
    obtain ⟨e1, e2⟩ := lets_word ha e
    refine ⟨⟨q, rfl, by rw [show (parts (.tuple ds)).map natD = ds.map natD from rfl, ← e1]; exact hs⟩, ?_, e2⟩
    show (ds.map natD).length ≤ 100000
    have := szAll_len ds
    simp only [szD] at hz
    rw [List.length_map]; omega
end LA

set_option maxHeartbeats 4000000
namespace LA
open PySem PySem.Spec PyProof.Rows L2
section
variable {X : Cx}
end
section
variable {P : Program} {w : World} {A : Around} {E : Value → Shared → Prop} {s : Shared}
end
section
variable {X : Cx}
theorem sortedIK (w : World) (hc : X.calm = true) (hw : X.w = w := by rfl) : CallR X (.builtin "sorted") (rSortedSet w) := by subst hw; exact cr_sortedSet hc
end
end LA

set_option maxHeartbeats 4000000
namespace LA
open PySem L2
theorem JAt.size {K : PySem.W.Frag} {H : Hp} {v : V} {j : Jd} (h : JAt K H v j) : ∃ (a : Addr) (vs : List V), v = .ref a ∧ SqT K H a vs ∧ vs.length = j.length := by
  obtain ⟨a, vs, rfl, h1, h2⟩ := h
  exact ⟨a, vs, rfl, h1, paired_len h2⟩
def RAt (K : PySem.W.Frag) (H : Hp) (v : V) (r : List (List Nat)) : Prop := ∃ a vs, v = .ref a ∧ SqT K H a vs ∧ Paired (WordAt K H) vs r
theorem RAt.t {K : PySem.W.Frag} {H H' : Hp} {v : V} {r : List (List Nat)} (h : RAt K H v r) (s : SameT H H') : RAt K H' v r := let ⟨a, vs, e, q, p⟩ := h; ⟨a, vs, e, s.seq q, paired_map p fun _ _ x => x.t s⟩
def relD (r : List (List Nat)) : PyData := .tuple (r.map wD)
/-- the ascending list of the states with a property -/
def upS (n : Nat) (p : Nat → Bool) : List Nat := (List.range n).filter p
theorem upS_mem {n : Nat} {p : Nat → Bool} {t : Nat} : t ∈ upS n p ↔ t < n ∧ p t = true := by simp [upS]
theorem upS_asc (n : Nat) (p : Nat → Bool) : (upS n p).Pairwise (· < ·) := List.Pairwise.filter _ List.pairwise_lt_range
theorem nat_asc {l : List Nat} (h : l.Pairwise (· < ·)) : (l.map (fun x : Nat => (x : Int))).Pairwise (· < ·) := by
  rw [List.pairwise_map]
  exact h.imp fun h => by omega
/-- a sorted list of ints, with the states that have a property, is theirs -/
theorem upS_of {n : Nat} {p : Nat → Bool} {ns : List Int} (h : ns.Pairwise (· < ·)) (hm : ∀ x, x ∈ ns ↔ ∃ t : Nat, x = (t : Int) ∧ t < n ∧ p t = true) : ns = (upS n p).map (fun x : Nat => (x : Int)) := by
  refine asc_eq h (nat_asc (upS_asc n p)) fun x => ?_
  rw [hm x, List.mem_map]
  constructor
  · rintro ⟨t, rfl, h1, h2⟩; exact ⟨t, upS_mem.mpr ⟨h1, h2⟩, rfl⟩
  · rintro ⟨t, h1, rfl⟩; exact ⟨t, rfl, (upS_mem.mp h1).1, (upS_mem.mp h1).2⟩
/-- the states behind a letter -/
def stepS (j : Jd) (x : Nat) (S : List Nat) : List Nat := upS j.length (fun t => S.any fun s => (rowJ j s x).contains (some t))
def reachS (j : Jd) : List Nat → List Nat → List Nat
  | [], S => S
  | x :: w, S => reachS j w (stepS j x S)
theorem reachS_app (j : Jd) : ∀ (u w S : List Nat), reachS j (u ++ w) S = reachS j w (reachS j u S)
  | [], _, _ => rfl
  | x :: u, w, S => reachS_app j u w (stepS j x S)
def relW (j : Jd) (w : List Nat) : List (List Nat) := (List.range j.length).map fun s => reachS j w [s]
theorem stepS_lt {j : Jd} {x : Nat} {S : List Nat} : ∀ t ∈ stepS j x S, t < j.length := fun t h => (upS_mem.mp h).1
theorem reachS_lt {j : Jd} : ∀ {w S : List Nat}, (∀ t ∈ S, t < j.length) → ∀ t ∈ reachS j w S, t < j.length
  | [], _, h => h
  | x :: w, S, _ => reachS_lt (w := w) (S := stepS j x S) stepS_lt
theorem reachS_asc {j : Jd} : ∀ {w S : List Nat}, S.Pairwise (· < ·) → (reachS j w S).Pairwise (· < ·)
  | [], _, h => h
  | x :: w, S, _ => reachS_asc (w := w) (S := stepS j x S) (upS_asc _ _)
/-- a relation of n states -/
structure IsR (n : Nat) (r : List (List Nat)) : Prop where
  len : r.length = n
  asc : ∀ S ∈ r, S.Pairwise (· < ·)
  lt : ∀ S ∈ r, ∀ t ∈ S, t < n
theorem relW_ok (j : Jd) (w : List Nat) : IsR j.length (relW j w) := by
  refine ⟨by simp [relW], fun S hS => ?_, fun S hS => ?_⟩
  · obtain ⟨s, hs, rfl⟩ := List.mem_map.mp hS
    exact reachS_asc (by simp)
  · obtain ⟨s, hs, rfl⟩ := List.mem_map.mp hS
    exact reachS_lt (by simpa using hs)
theorem asc_len {n : Nat} {S : List Nat} (h : S.Pairwise (· < ·)) (hl : ∀ t ∈ S, t < n) : S.length ≤ n := by
  have h1 := nodup_le n (S.map (fun x : Nat => (x : Int))) ((nat_asc h).imp fun h => by omega) fun x hx => by
    obtain ⟨t, ht, rfl⟩ := List.mem_map.mp hx
    have := hl t ht
    omega
  simpa using h1
theorem RAt.dq {K : PySem.W.Frag} {p : Addr} {Z : Addr → Prop} {H : Hp} {v : V} {r : List (List Nat)} (h : RAt K H v r) : Dq K p Z H v (relD r) := by
  obtain ⟨a, vs, rfl, h1, h2⟩ := h
  refine .tup h1 ?_
  have : ∀ {vs : List V} {r : List (List Nat)}, Paired (WordAt K H) vs r → DqAll K p Z H vs (r.map wD) := by
    intro vs r hp
    induction hp with
    | nil => exact .nil
    | cons x _ ih => obtain ⟨a, rfl, hq⟩ := x; exact .cons (.tup hq (nats_dq _)) ih
  exact this h2
theorem relD_bd {n : Nat} {r : List (List Nat)} (h : IsR n r) (hn : n ≤ 8) : Bd (10 ^ 30) 900 2 (relD r) := by
  have hw : ∀ S ∈ r, Bd (10 ^ 30) 83 1 (wD S) := fun S hS => by
    have h1 := asc_len (h.asc S hS) (h.lt S hS)
    have h2 := nats_bd (N := 10 ^ 30) (by decide) S (fun x hx => by have := h.lt S hS x hx; omega)
    refine (Bd.tup h2).mono (Nat.le_refl _) (by omega) (by omega)
  have : ∀ (r : List (List Nat)), (∀ S ∈ r, Bd (10 ^ 30) 83 1 (wD S)) → Bds (10 ^ 30) (85 * r.length) 1 (r.map wD) := by
    intro r
    induction r with
    | nil => intro _; exact Bds.nil
    | cons S r ih =>
      intro h
      have h1 := Bds.cons (h S List.mem_cons_self) (ih fun S' hS' => h S' (List.mem_cons_of_mem _ hS'))
      exact h1.mono (Nat.le_refl _) (by simp only [List.length_cons]; omega) (Nat.le_refl _)
  have h3 := Bd.tup (this r hw)
  exact h3.mono (Nat.le_refl _) (by rw [h.len]; omega) (by omega)
end LA

set_option maxHeartbeats 4000000
namespace LA
def ansOk (S : Nat → Nat → Bool) (row : Rw) (rest : Nat) : Bool := row.any fun o => match o with | none => false | some t => S t rest
def okW (j : Jd) (m : Nat) (S : Nat → Nat → Bool) (s W : Nat) : Bool := ansOk S (rowJ j s (W / m)) (W % m)
def KeptP (j : Jd) (m X : Nat) (S : Nat → Nat → Bool) : Prop := ∀ s p, s < j.length → p < m → S s p = true → ∀ x, x < X → okW j m S s (p * X + x) = true
def Within (n m : Nat) (S : Nat → Nat → Bool) : Prop := ∀ s p, S s p = true → s < n ∧ p < m
/-- the greatest set -/
def SafeP (j : Jd) (m X s p : Nat) : Prop := ∃ S, Within j.length m S ∧ KeptP j m X S ∧ S s p = true
theorem ansOk_mono {S T : Nat → Nat → Bool} (h : ∀ s p, S s p = true → T s p = true) {row : Rw} {r : Nat} (k : ansOk S row r = true) : ansOk T row r = true := by
  unfold ansOk at *
  obtain ⟨o, h1, h2⟩ := List.any_eq_true.mp k
  refine List.any_eq_true.mpr ⟨o, h1, ?_⟩
  cases o with
  | none => cases h2
  | some t => exact h _ _ h2
theorem SafeP.lt {j : Jd} {m X s p : Nat} (h : SafeP j m X s p) : s < j.length ∧ p < m := by
  obtain ⟨S, h1, _, h3⟩ := h
  exact h1 s p h3
/-- a pair without an answer is not safe, as long as all safe ones are there -/
theorem not_safe {j : Jd} {m X : Nat} {S : Nat → Nat → Bool} (hS : ∀ s p, SafeP j m X s p → S s p = true) {s W : Nat} (hX : 0 < X) (h : okW j m S s W = false) : ¬ SafeP j m X s (W / X) := by
  rintro ⟨T, h1, h2, h3⟩
  have hb := h1 _ _ h3
  have h4 := h2 s (W / X) hb.1 hb.2 h3 (W % X) (Nat.mod_lt _ hX)
  have e : W / X * X + W % X = W := by rw [Nat.mul_comm]; exact Nat.div_add_mod W X
  rw [e] at h4
  have h5 : okW j m S s W = true := ansOk_mono (fun s p k => hS s p ⟨T, h1, h2, k⟩) h4
  rw [h5] at h; cases h
theorem safe_of {j : Jd} {m X : Nat} {S : Nat → Nat → Bool} (hw : Within j.length m S) (hk : KeptP j m X S) (hS : ∀ s p, SafeP j m X s p → S s p = true) (s p : Nat) : S s p = true ↔ SafeP j m X s p :=
  ⟨fun h => ⟨S, hw, hk, h⟩, hS s p⟩
open Classical in
/-- the safe pairs, as a table of truth values -/
noncomputable def safeB (j : Jd) (m X : Nat) (s p : Nat) : Bool := decide (SafeP j m X s p)
theorem safeB_iff {j : Jd} {m X s p : Nat} : safeB j m X s p = true ↔ SafeP j m X s p := by unfold safeB; simp
theorem safeB_of {j : Jd} {m X : Nat} {S : Nat → Nat → Bool} (hw : Within j.length m S) (hk : KeptP j m X S) (hS : ∀ s p, SafeP j m X s p → S s p = true) : S = safeB j m X := by
  funext s p
  have h1 := safe_of hw hk hS s p
  have h2 := safeB_iff (j := j) (m := m) (X := X) (s := s) (p := p)
  cases e1 : S s p <;> cases e2 : safeB j m X s p <;> simp_all
def offS (S : Nat → Nat → Bool) (s p : Nat) : Nat → Nat → Bool := fun s' p' => if s' = s ∧ p' = p then false else S s' p'
theorem offS_le {S : Nat → Nat → Bool} {s p : Nat} : ∀ s' p', offS S s p s' p' = true → S s' p' = true := fun s' p' h => by
  unfold offS at h; split at h
  · cases h
  · exact h
/-- all words but those whose rest is in cs, and those with the rest r from the letter f on, are answered in all pairs -/
def Done (j : Jd) (m X : Nat) (S : Nat → Nat → Bool) (cs : List Nat) (skip : Nat → Prop) : Prop :=
  ∀ W, W < X * m → W % m ∉ cs → ¬ skip W → ∀ s, s < j.length → S s (W / X) = true → okW j m S s W = true
structure SafeI (j : Jd) (m X : Nat) (S : Nat → Nat → Bool) (cs : List Nat) (skip : Nat → Prop) : Prop where
  within : Within j.length m S
  safe : ∀ s p, SafeP j m X s p → S s p = true
  done : Done j m X S cs skip
/-- the start: all pairs there, all words to be looked at -/
theorem SafeI.start {j : Jd} {m X : Nat} (hm : 0 < m) : SafeI j m X (fun s p => decide (s < j.length) && decide (p < m)) (List.range m) (fun _ => False) := by
  refine ⟨fun s p h => by simpa using h, fun s p h => by have := h.lt; simp [this], fun W _ h => ?_⟩
  exact absurd (List.mem_range.mpr (Nat.mod_lt W hm)) h
/-- the end: no word to be looked at -/
theorem SafeI.end {j : Jd} {m X : Nat} {S : Nat → Nat → Bool} (hX : 0 < X) (h : SafeI j m X S [] (fun _ => False)) : S = safeB j m X := by
  refine safeB_of h.within (fun s p hs hp hsp x hx => ?_) h.safe
  have hW : p * X + x < X * m := by
    have h1 : (p + 1) * X ≤ m * X := Nat.mul_le_mul_right _ hp
    rw [Nat.add_mul, Nat.one_mul] at h1
    rw [Nat.mul_comm X m]; omega
  have hd : (p * X + x) / X = p := by rw [Nat.mul_comm, Nat.mul_add_div hX, Nat.div_eq_of_lt hx, Nat.add_zero]
  exact h.done _ hW (by simp) id s hs (by rw [hd]; exact hsp)
end LA

set_option maxHeartbeats 4000000
namespace LA
def dropN (j : Jd) (m X : Nat) (S : Nat → Nat → Bool) (W : Nat) : Nat → (Nat → Nat → Bool) × Bool
  | 0 => (S, false)
  | s + 1 => if ((dropN j m X S W s).1 s (W / X) && !okW j m (dropN j m X S W s).1 s W) = true then (offS (dropN j m X S W s).1 s (W / X), true) else dropN j m X S W s
section
variable {j : Jd} {m X : Nat} {S : Nat → Nat → Bool} {W : Nat}
theorem drop_le : ∀ (n s p : Nat), (dropN j m X S W n).1 s p = true → S s p = true
  | 0, _, _, h => h
  | n + 1, s, p, h => by
    unfold dropN at h
    split at h
    · exact drop_le n s p (offS_le s p h)
    · exact drop_le n s p h
theorem drop_other {s p : Nat} (hp : p ≠ W / X) : ∀ n : Nat, (dropN j m X S W n).1 s p = S s p
  | 0 => rfl
  | n + 1 => by
    unfold dropN
    split
    · show offS _ _ _ s p = _
      unfold offS
      rw [if_neg (fun z => hp z.2)]
      exact drop_other hp n
    · exact drop_other hp n
theorem drop_safe (hX : 0 < X) (h : ∀ s p, SafeP j m X s p → S s p = true) : ∀ (n s p : Nat), SafeP j m X s p → (dropN j m X S W n).1 s p = true
  | 0, s, p, k => h s p k
  | n + 1, s, p, k => by
    have ih := drop_safe hX h n
    unfold dropN
    split
    · rename_i hc
      simp only [Bool.and_eq_true, Bool.not_eq_true'] at hc
      show offS _ _ _ s p = true
      unfold offS
      rw [if_neg]
      · exact ih s p k
      · rintro ⟨rfl, rfl⟩
        exact not_safe ih hX hc.2 k
    · exact ih s p k
theorem drop_false : ∀ n : Nat, (dropN j m X S W n).2 = false → (dropN j m X S W n).1 = S ∧ ∀ s, s < n → S s (W / X) = true → okW j m S s W = true
  | 0, _ => ⟨rfl, fun s h => absurd h (Nat.not_lt_zero s)⟩
  | n + 1, h => by
    unfold dropN at h ⊢
    split at h
    · cases h
    · rename_i hc
      rw [if_neg hc]
      obtain ⟨h1, h2⟩ := drop_false n h
      refine ⟨h1, fun s hs hS => ?_⟩
      by_cases e : s = n
      · subst e
        rw [h1] at hc
        rw [hS, Bool.true_and] at hc
        cases hk : okW j m S s W with
        | true => rfl
        | false => rw [hk] at hc; exact absurd rfl hc
      · exact h2 s (by omega) hS
/-- where the rest is not what is pending, all that are left are answered -/
theorem drop_ok (hr : W % m ≠ W / X) : ∀ (n s : Nat), s < n → (dropN j m X S W n).1 s (W / X) = true → okW j m (dropN j m X S W n).1 s W = true := by
  have same : ∀ n s, okW j m (dropN j m X S W n).1 s W = okW j m S s W := fun n s => by
    unfold okW ansOk
    congr 1
    funext o
    cases o with
    | none => rfl
    | some t => exact drop_other hr n
  intro n
  induction n with
  | zero => intro s hs; exact absurd hs (Nat.not_lt_zero s)
  | succ n ih =>
    intro s hs h
    rw [same]
    unfold dropN at h
    split at h
    · rename_i hc
      have h' : offS (dropN j m X S W n).1 n (W / X) s (W / X) = true := h
      have hne : s ≠ n := fun e => by unfold offS at h'; rw [if_pos ⟨e, rfl⟩] at h'; cases h'
      have := ih s (by omega) (offS_le s _ h')
      rwa [same] at this
    · rename_i hc
      by_cases e : s = n
      · subst e
        rw [h, Bool.true_and, same] at hc
        cases hk : okW j m S s W with
        | true => rfl
        | false => rw [hk] at hc; exact absurd rfl hc
      · have := ih s (by omega) h
        rwa [same] at this
theorem drop_within {n0 : Nat} (h : Within n0 m S) (n : Nat) : Within n0 m (dropN j m X S W n).1 := fun s p k => h s p (drop_le n s p k)
end
def skipW (m r f W : Nat) : Prop := W % m = r ∧ f ≤ W / m
section
variable {j : Jd} {m X : Nat} {S : Nat → Nat → Bool} {cs : List Nat} {r : Nat}
theorem SafeI.last (h : SafeI j m X S cs (skipW m r X)) : SafeI j m X S cs (fun _ => False) := by
  refine ⟨h.within, h.safe, fun W hW hc _ => h.done W hW hc fun z => ?_⟩
  have : W / m < X := Nat.div_lt_of_lt_mul (by rw [Nat.mul_comm]; exact hW)
  have := z.2
  omega
theorem SafeI.step {f : Nat} (hm : 0 < m) (hX : 0 < X) (hr : r < m) (h : SafeI j m X S cs (skipW m r f)) :
    SafeI j m X (dropN j m X S (f * m + r) j.length).1 (if (dropN j m X S (f * m + r) j.length).2 = true then cs ++ [(f * m + r) / X] else cs) (skipW m r (f + 1)) := by
  have e1 : (f * m + r) % m = r := by rw [Nat.add_comm, Nat.add_mul_mod_self_right]; exact Nat.mod_eq_of_lt hr
  have e2 : (f * m + r) / m = f := by rw [Nat.add_comm, Nat.add_mul_div_right _ _ hm, Nat.div_eq_of_lt hr, Nat.zero_add]
  generalize hW0 : f * m + r = W0 at e1 e2
  have key : ∀ W, skipW m r f W → ¬ skipW m r (f + 1) W → W = W0 := fun W h1 h2 => by
    have h3 : W / m = f := by
      have : ¬ (f + 1 ≤ W / m) := fun z => h2 ⟨h1.1, z⟩
      have := h1.2
      omega
    have h4 := Nat.div_add_mod W m
    rw [h3, h1.1, Nat.mul_comm] at h4
    omega
  refine ⟨drop_within h.within _, drop_safe hX h.safe _, fun W hW hc hk s hs hSW => ?_⟩
  cases hd : (dropN j m X S W0 j.length).2 with
  | false =>
    rw [hd] at hc
    obtain ⟨f1, f2⟩ := drop_false j.length hd
    rw [f1] at hSW ⊢
    by_cases hsk : skipW m r f W
    · have := key W hsk hk
      subst this
      exact f2 s hs hSW
    · exact h.done W hW (by simpa using hc) hsk s hs hSW
  | true =>
    rw [hd, if_pos rfl] at hc
    have hne : W % m ≠ W0 / X := fun z => hc (List.mem_append.mpr (.inr (by simp [z])))
    have hcs : W % m ∉ cs := fun z => hc (List.mem_append.mpr (.inl z))
    have same : okW j m (dropN j m X S W0 j.length).1 s W = okW j m S s W := by
      unfold okW ansOk
      congr 1
      funext o
      cases o with
      | none => rfl
      | some t => exact drop_other hne _
    by_cases hsk : skipW m r f W
    · have := key W hsk hk
      subst this
      exact drop_ok hne _ s hs hSW
    · rw [same]
      exact h.done W hW hcs hsk s hs (drop_le _ s _ hSW)
end
end LA

set_option maxHeartbeats 4000000
namespace LA
open PySem PySem.Spec PyProof.Rows L2
structure FlAt (H : Hp) (sa : Addr) (fas : List Addr) (n m : Nat) (S : Nat → Nat → Bool) : Prop where
  top : H sa = some (.lst (fas.map V.ref))
  len : fas.length = n
  nd : (sa :: fas).Nodup
  row : ∀ s a, fas[s]? = some a → H a = some (.lst ((List.range m).map fun p => V.bl (S s p)))
/-- all but these addresses as before -/
def SameE (E : List Addr) (H H' : Hp) : Prop := ∀ b o, H b = some o → b ∉ E → H' b = some o
theorem SameE.refl (E : List Addr) (H : Hp) : SameE E H H := fun _ _ h _ => h
theorem SameE.trans {E : List Addr} {H H' H'' : Hp} (a : SameE E H H') (b : SameE E H' H'') : SameE E H H'' := fun c o h n => b c o (a c o h n) n
theorem Same.e {E : List Addr} {H H' : Hp} (s : Same H H') : SameE E H H' := fun b o h _ => s b o h
/-- the addresses of E hold lists, before and behind -/
def LstE (E : List Addr) (H : Hp) : Prop := ∀ a ∈ E, ∃ xs, H a = some (.lst xs)
theorem SameE.t {E : List Addr} {H H' : Hp} (s : SameE E H H') (h : LstE E H) : SameT H H' := by
  intro b xs
  refine ⟨fun e => ?_, fun o e => ?_⟩
  · refine s b _ e fun hb => ?_
    obtain ⟨ys, hy⟩ := h b hb
    rw [hy] at e; cases e
  · refine s b _ e fun hb => ?_
    obtain ⟨ys, hy⟩ := h b hb
    rw [hy] at e; cases e
theorem FlAt.lst {H : Hp} {sa : Addr} {fas : List Addr} {n m : Nat} {S : Nat → Nat → Bool} (h : FlAt H sa fas n m S) : LstE fas H := fun a ha => by
  obtain ⟨i, hi, e⟩ := List.getElem_of_mem ha
  exact ⟨_, h.row i a (by rw [← e]; exact List.getElem?_eq_getElem hi)⟩
theorem FlAt.same {H H' : Hp} {sa : Addr} {fas : List Addr} {n m : Nat} {S : Nat → Nat → Bool} (h : FlAt H sa fas n m S) (s : Same H H') : FlAt H' sa fas n m S := ⟨s _ _ h.top, h.len, h.nd, fun i a e => s _ _ (h.row i a e)⟩
theorem FlAt.at {H : Hp} {sa : Addr} {fas : List Addr} {n m : Nat} {S : Nat → Nat → Bool} (h : FlAt H sa fas n m S) {s : Nat} (hs : s < n) : ∃ a, fas[s]? = some a ∧ (fas.map V.ref)[s]? = some (V.ref a) ∧ H a = some (.lst ((List.range m).map fun p => V.bl (S s p))) := by
  have hl : s < fas.length := by rw [h.len]; exact hs
  exact ⟨fas[s], List.getElem?_eq_getElem hl, by rw [List.getElem?_map, List.getElem?_eq_getElem hl]; rfl, h.row s _ (List.getElem?_eq_getElem hl)⟩
theorem nodup_inj {l : List Addr} (h : l.Nodup) {i k : Nat} {a : Addr} (hi : l[i]? = some a) (hk : l[k]? = some a) : i = k := by
  obtain ⟨h1, h2⟩ := List.getElem?_eq_some_iff.mp hi
  obtain ⟨h3, h4⟩ := List.getElem?_eq_some_iff.mp hk
  have hp := List.pairwise_iff_getElem.mp h
  rcases Nat.lt_trichotomy i k with z | z | z
  · exact absurd (h2.trans h4.symm) (hp i k h1 h3 z)
  · exact z
  · exact absurd (h4.trans h2.symm) (hp k i h3 h1 z)
end LA

set_option maxHeartbeats 4000000
namespace LA
open PySem PySem.Spec PyProof.Rows L2
def wAt (X k p : Nat) : List Nat := ((allW X k)[p]?).getD []
def PrAt (K : PySem.W.Frag) (H : Hp) (v : V) (pr : Nat × List Nat) : Prop := ∃ a b, v = .ref a ∧ SqT K H a [nV pr.1, .ref b] ∧ WordAt K H (.ref b) pr.2
theorem PrAt.t {K : PySem.W.Frag} {H H' : Hp} {v : V} {pr : Nat × List Nat} (h : PrAt K H v pr) (s : SameT H H') : PrAt K H' v pr := let ⟨a, b, e, q, w⟩ := h; ⟨a, b, e, s.seq q, w.t s⟩
noncomputable def enoughB (j : Jd) (m X : Nat) : Bool := ((List.range m).map (safeB j m X 0)).all id
end LA

set_option maxHeartbeats 4000000
namespace LA
open PySem L2
theorem flat_congr {α β : Type} {f g : α → List β} : ∀ {l : List α}, (∀ x ∈ l, f x = g x) → l.flatMap f = l.flatMap g
  | [], _ => rfl
  | a :: l, h => by rw [List.flatMap_cons, List.flatMap_cons, h a List.mem_cons_self, flat_congr fun x hx => h x (List.mem_cons_of_mem _ hx)]
theorem allW_first (L : Nat) : ∀ n, allW L (n + 1) = (List.range L).flatMap fun y => (allW L n).map (y :: ·)
  | 0 => by
    show ([[]] : List (List Nat)).flatMap (fun w => (List.range L).map fun x => w ++ [x]) = _
    simp [allW, List.flatMap_def]
    induction List.range L with
    | nil => rfl
    | cons a l ih => simp [ih]
  | n + 1 => by
    show (allW L (n + 1)).flatMap (fun w => (List.range L).map fun x => w ++ [x]) = _
    conv => lhs; rw [allW_first L n]
    rw [List.flatMap_assoc]
    refine flat_congr fun y _ => ?_
    show _ = ((allW L n).flatMap fun w => (List.range L).map fun x => w ++ [x]).map (y :: ·)
    rw [List.flatMap_map, List.map_flatMap]
    refine flat_congr fun w _ => ?_
    rw [List.map_map]
    rfl
def ltL : List Nat → List Nat → Prop
  | a :: u, b :: v => a < b ∨ (a = b ∧ ltL u v)
  | _, _ => False
theorem ltL_irr : ∀ u, ¬ ltL u u
  | [] => id
  | a :: u => fun h => by rcases h with h | ⟨_, h⟩; exact Nat.lt_irrefl _ h; exact ltL_irr u h
theorem allW_sorted (L : Nat) : ∀ n, (allW L n).Pairwise ltL
  | 0 => List.pairwise_singleton _ _
  | n + 1 => by
    rw [allW_first, List.pairwise_flatMap]
    refine ⟨fun y _ => ?_, ?_⟩
    · rw [List.pairwise_map]
      exact (allW_sorted L n).imp fun h => .inr ⟨rfl, h⟩
    · refine List.pairwise_lt_range.imp fun {a b} hab => ?_
      intro x hx y hy
      obtain ⟨u, _, rfl⟩ := List.mem_map.mp hx
      obtain ⟨v, _, rfl⟩ := List.mem_map.mp hy
      exact .inl hab
theorem sorted_nodup {l : List (List Nat)} (h : l.Pairwise ltL) : l.Nodup := List.Pairwise.imp (fun {a b} (hab : ltL a b) (e : a = b) => ltL_irr a (by rw [← e] at hab; exact hab)) h
end LA

set_option maxHeartbeats 4000000
namespace LA
open PySem PySem.Spec PyProof.Rows L2
mutual
inductive NkV (K : PySem.W.Frag) (H : Hp) : V → NestedKey → Prop
  | int (i : Int) : NkV K H (.int i) (.num i)
  | non : NkV K H .non .none
  | str (x : Str) : NkV K H (.str x) (.text x)
  | tup {a : Addr} {xs : List V} {ks : List NestedKey} : SqT K H a xs → NkAll K H xs ks → NkV K H (.ref a) (.tup ks)
inductive NkAll (K : PySem.W.Frag) (H : Hp) : List V → List NestedKey → Prop
  | nil : NkAll K H [] []
  | cons {v : V} {vs : List V} {k : NestedKey} {ks : List NestedKey} : NkV K H v k → NkAll K H vs ks → NkAll K H (v :: vs) (k :: ks)
end
section
variable {K : PySem.W.Frag} {H H' : Hp}
mutual
theorem NkV.x (s : SameT H H') : ∀ (k : NestedKey) (v : V), NkV K H v k → NkV K H' v k
  | .none, _, h => by cases h; exact .non
  | .num i, _, h => by cases h; exact .int i
  | .text x, _, h => by cases h; exact .str x
  | .tup ks, _, h => by
    cases h with
    | tup hs ha => exact .tup (s.seq hs) (NkAll.x s ks _ ha)
theorem NkAll.x (s : SameT H H') : ∀ (ks : List NestedKey) (vs : List V), NkAll K H vs ks → NkAll K H' vs ks
  | [], _, h => by cases h; exact .nil
  | k :: ks, _, h => by
    cases h with
    | cons h1 h2 => exact .cons (NkV.x s k _ h1) (NkAll.x s ks _ h2)
end
theorem NkV.t {v : V} {k : NestedKey} (h : NkV K H v k) (s : SameT H H') : NkV K H' v k := NkV.x s k v h
end
section
variable {X : Cx} {pins : List (Addr × Obj)} {σ : L2.St} {H : Hp} {s : Shared}
mutual
theorem NkV.is (I : Inv X pins σ H s) : ∀ (k : NestedKey) (v : V) (u : Value), NkV X.K H v k → RelV v u → NestedIs s.heap k u
  | .none, v, u, h, r => by
    cases h
    obtain rfl : u = Value.none := r
    exact .none
  | .text x, v, u, h, r => by
    cases h
    obtain ⟨t, e⟩ : ∃ t, u = Value.str x t := r
    subst e; exact .text x t
  | .num i, v, u, h, r => by
    cases h
    obtain ⟨t, e⟩ : ∃ t, u = Value.int i t := r
    subst e; exact .int i t
  | .tup ks, v, u, h, r => by
    cases h with
    | @tup a xs _ hs ha =>
      obtain rfl : u = Value.ref a := r
      obtain ⟨its, rv, ⟨o, g1, g2, n, g3⟩, _⟩ := I.tuple hs
      exact .tup g1 g2 g3 (by simpa using NkAll.is I ks xs its ha rv)
theorem NkAll.is (I : Inv X pins σ H s) : ∀ (ks : List NestedKey) (vs : List V) (us : List Value), NkAll X.K H vs ks → Vals vs us → NestedAll s.heap ks us
  | [], vs, us, h, r => by cases h; cases r; exact .nil
  | k :: ks, vs, us, h, r => by
    cases h with
    | cons h1 h2 =>
      cases r with
      | cons r1 r2 => exact .cons (NkV.is I k _ _ h1 r1) (NkAll.is I ks _ _ h2 r2)
end
end
abbrev DnE := NestedKey × Addr × V
def DnR (l : DnE) (x : NestedKey × Addr × Value) : Prop := l.1 = x.1 ∧ l.2.1 = x.2.1 ∧ RelV l.2.2 x.2.2
structure DnOk (P : Program) (w : World) (h : Heap) (a : Addr) (L : List DnE) (ep : Nat) : Prop where
  ex : ∃ (xs : List (NestedKey × Addr × Value)), Paired DnR L xs ∧ (a == sysModules) = false ∧ L.length ≤ sizeLine ∧ (xs.map (·.1)).Nodup ∧ ∃ o es, h.get? a = some o ∧ o.ExactDict ∧ o.data = Data.dict es ep ∧ es.toList = xs.map (entryOfKey (nestedKind P w))
/-- a dict with keys that are tuples; where each key lies; how often it was changed -/
def DictN (P : Program) (w : World) (a : Addr) (L : List DnE) (ep : Nat) : HO := .ext fun h => DnOk P w h a L ep
theorem dictN_ok {P : Program} {w : World} {H : Hp} {h : Heap} {a : Addr} {L : List DnE} {ep : Nat} (k : DnOk P w h a L ep) : ObjOk P w H h a (DictN P w a L ep) := by
  show DnOk P w h a L ep ∧ (∃ o, h.get? a = some o) ∧ ∀ (h1 h2 : Heap), DnOk P w h1 a L ep → (∀ (o : Obj), h1.get? a = some o → h2.get? a = some o) → DnOk P w h2 a L ep
  refine ⟨k, ?_, ?_⟩
  · obtain ⟨xs, _, _, _, _, o, es, e, _⟩ := k.ex
    exact ⟨o, e⟩
  · intro h1 h2 q st
    obtain ⟨xs, a1, a2, a3, a4, o, es, e, r⟩ := q.ex
    exact ⟨xs, a1, a2, a3, a4, o, es, st o e, r⟩
def KeysN (K : PySem.W.Frag) (H : Hp) (L : List DnE) : Prop := ∀ l ∈ L, NkV K H (.ref l.2.1) l.1 ∧ l.1.depth ≤ 8
theorem KeysN.t {K : PySem.W.Frag} {H H' : Hp} {L : List DnE} (h : KeysN K H L) (s : SameT H H') : KeysN K H' L := fun l hl => ⟨(h l hl).1.t s, (h l hl).2⟩
def atN (L : List DnE) (k : NestedKey) : Option (Addr × V) := (L.find? fun l => decide (l.1 = k)).map (·.2)
def putN (k : NestedKey) (v : V) (l : DnE) : DnE := if l.1 = k then (l.1, l.2.1, v) else l
def storeN (L : List DnE) (k : NestedKey) (b : Addr) (v : V) : List DnE := if (atN L k).isSome = true then L.map (putN k v) else L ++ [(k, b, v)]
theorem at_rel {k : NestedKey} : ∀ {L : List DnE} {xs : List (NestedKey × Addr × Value)}, Paired DnR L xs → (atN L k = none ∧ atKey xs k = none) ∨ ∃ l p, atN L k = some l ∧ atKey xs k = some p ∧ l.1 = p.1 ∧ RelV l.2 p.2
  | [], [], .nil => .inl ⟨rfl, rfl⟩
  | l :: L, x :: xs, .cons h t => by
    obtain ⟨h1, h2, h3⟩ := h
    by_cases e : l.1 = k
    · refine .inr ⟨l.2, x.2, ?_, ?_, h2, h3⟩
      · simp [atN, e]
      · simp [atKey, ← h1, e]
    · have e' : x.1 ≠ k := fun z => e (h1.trans z)
      have i1 : atN (l :: L) k = atN L k := by simp [atN, e]
      have i2 : atKey (x :: xs) k = atKey xs k := by simp [atKey, e']
      rw [i1, i2]; exact at_rel t
theorem at_some {k : NestedKey} {L : List DnE} {xs : List (NestedKey × Addr × Value)} (h : Paired DnR L xs) : (atKey xs k).isSome = (atN L k).isSome := by
  rcases at_rel (k := k) h with ⟨e1, e2⟩ | ⟨l, p, e1, e2, _, _⟩ <;> rw [e1, e2] <;> rfl
theorem put_rel {k : NestedKey} {v : V} {u : Value} (r : RelV v u) : ∀ {L : List DnE} {xs : List (NestedKey × Addr × Value)}, Paired DnR L xs → Paired DnR (L.map (putN k v)) (xs.map (putAt k u))
  | [], [], .nil => .nil
  | l :: L, x :: xs, .cons h t => by
    refine .cons ?_ (put_rel r t)
    obtain ⟨e1, e2, e3⟩ := h
    unfold putN putAt
    by_cases e : l.1 = k
    · rw [if_pos e, if_pos (e1.symm.trans e)]; exact ⟨e1, e2, r⟩
    · rw [if_neg e, if_neg (fun z => e (e1.trans z))]; exact ⟨e1, e2, e3⟩
theorem paired_mem' {α β : Type} {R : α → β → Prop} : ∀ {L : List α} {xs : List β} {x : β}, Paired R L xs → x ∈ xs → ∃ l ∈ L, R l x
  | _, _, x, .nil, hx => by cases hx
  | _, _, x, .cons h t, hx => by
    rcases List.mem_cons.mp hx with rfl | hx
    · exact ⟨_, List.mem_cons_self, h⟩
    · obtain ⟨l, h1, h2⟩ := paired_mem' t hx
      exact ⟨l, List.mem_cons_of_mem _ h1, h2⟩
theorem store_rel {L : List DnE} {xs : List (NestedKey × Addr × Value)} {k : NestedKey} {b : Addr} {v : V} {u : Value} (h : Paired DnR L xs) (r : RelV v u) : Paired DnR (storeN L k b v) (storedH xs k b u) := by
  unfold storeN storedH
  rw [at_some h]
  split
  · exact put_rel r h
  · exact paired_snoc h ⟨rfl, rfl, r⟩
theorem mem_storeN {L : List DnE} {k : NestedKey} {b : Addr} {v : V} {l : DnE} (h : l ∈ storeN L k b v) : (∃ l' ∈ L, l'.1 = l.1 ∧ l'.2.1 = l.2.1) ∨ (l.1 = k ∧ l.2.1 = b) := by
  unfold storeN at h
  split at h
  · obtain ⟨l', h1, rfl⟩ := List.mem_map.mp h
    refine .inl ⟨l', h1, ?_⟩
    unfold putN
    split <;> exact ⟨rfl, rfl⟩
  · rcases List.mem_append.mp h with h | h
    · exact .inl ⟨l, h, rfl, rfl⟩
    · have : l = (k, b, v) := by simpa using h
      subst this; exact .inr ⟨rfl, rfl⟩
theorem KeysN.store {K : PySem.W.Frag} {H : Hp} {L : List DnE} {k : NestedKey} {b : Addr} {v : V} (h : KeysN K H L) (hk : NkV K H (.ref b) k) (hd : k.depth ≤ 8) : KeysN K H (storeN L k b v) := by
  intro l hl
  rcases mem_storeN hl with ⟨l', h1, e1, e2⟩ | ⟨e1, e2⟩
  · rw [← e1, ← e2]; exact h l' h1
  · rw [e1, e2]; exact ⟨hk, hd⟩
theorem storeN_len (L : List DnE) (k : NestedKey) (b : Addr) (v : V) : (storeN L k b v).length ≤ L.length + 1 := by
  unfold storeN; split <;> simp
section
variable {X : Cx} {pins : List (Addr × Obj)} {σ : L2.St} {H : Hp} {s : Shared}
theorem dn_of (I : Inv X pins σ H s) {a : Addr} {L : List DnE} {ep : Nat} (e : H a = some (DictN X.prog X.w a L ep)) (hk : KeysN X.K H L) : ∃ xs, Paired DnR L xs ∧ (a == sysModules) = false ∧ L.length ≤ sizeLine ∧ Heap.DictOfH (nestedKind X.prog X.w) s.heap a xs := by
  obtain ⟨⟨xs, a1, a2, a3, a4, o, es, e1, e2, e3, e4⟩, _, _⟩ := (show ObjOk X.prog X.w H s.heap a (DictN X.prog X.w a L ep) from I.hok a _ e)
  refine ⟨xs, a1, a2, a3, o, es, ep, e1, e2, e3, e4, fun x hx => ?_, a4⟩
  obtain ⟨l, hl, h1, h2, _⟩ := paired_mem' a1 hx
  have := hk l hl
  rw [h1, h2] at this
  exact ⟨NkV.is I _ _ _ this.1 rfl, this.2⟩
theorem dn_back {P : Program} {w : World} {h : Heap} {a : Addr} {L : List DnE} {xs : List (NestedKey × Addr × Value)} (hp : Paired DnR L xs) (hs : (a == sysModules) = false) (hl : L.length ≤ sizeLine) (hd : Heap.DictOfH (nestedKind P w) h a xs) : ∃ ep, DnOk P w h a L ep := by
  obtain ⟨o, es, ep, e1, e2, e3, e4, _, e6⟩ := hd
  exact ⟨ep, xs, hp, hs, hl, e6, o, es, e1, e2, e3, e4⟩
end
section
variable {X : Cx}
/-- {} -/
def tDNewN (P : Program) (w : World) : TE := fun _ H Q => ∀ p ep, H p = none → Q (.ref p) (upd H p (DictN P w p [] ep))
theorem pe_dnewN (P : Program) (w : World) {pos : Pos} (hp : X.prog = P := by rfl) (hw : X.w = w := by rfl) : PE X (.Dict [] [] pos) (tDNewN P w) := by
  subst hp hw
  refine ⟨fun pins s σ H Q I h => wpAny_Dict_empty ?_⟩
  have hn : (s.heap.objs.size == sysModules) = false := by
    have := I.big
    simp only [beq_eq_false_iff_ne, ne_eq]
    intro z
    rw [z] at this
    exact absurd this (by decide)
  obtain ⟨ep, k⟩ := dn_back (P := X.prog) (w := X.w) .nil hn (by simp) (Heap.DictOfH.new s.heap)
  exact ⟨.ref s.heap.objs.size, upd H s.heap.objs.size (DictN X.prog X.w s.heap.objs.size [] ep), I.laid (fun b u q => Heap.get?_push_of_some _ q) (Nat.le_refl _) (dictN_ok k), rfl, h _ ep (I.hok.fresh (Nat.le_refl _))⟩
/-- k in d -/
def rInN (K : PySem.W.Frag) (P : Program) (w : World) (neg : Bool) : R2 := fun x y H Q => ∃ (a b : Addr) (L : List DnE) (k : NestedKey) (ep : Nat), x = .ref b ∧ y = .ref a ∧ H a = some (DictN P w a L ep) ∧ KeysN K H L ∧ NkV K H (.ref b) k ∧ k.depth ≤ 8 ∧ Q (.bl (neg ^^ (atN L k).isSome)) H
theorem inNK (K : PySem.W.Frag) (P : Program) (w : World) (hu : X.A.units + 64 < cLine) (h : X.K = K := by rfl) (hp : X.prog = P := by rfl) (hw : X.w = w := by rfl) : OpR X (compareOp .In) (rInN K P w false) := by
  subst h hp hw
  intro pins s σ H x y v u Q I rx ry hq
  obtain ⟨a, b, L, k, ep, rfl, rfl, ha, hk, hb, hd, q⟩ := hq
  cases rx; cases ry
  obtain ⟨xs, h1, h2, h3, h4⟩ := dn_of I ha hk
  refine wpAny_in_heap (knd := nestedKind X.prog X.w) (by show X.A.units + 1 + 8 < cLine; omega) ⟨NkV.is I _ _ _ hb rfl, hd⟩ h2 h4 ⟨.bl _, H, I.tok _, rfl, ?_⟩
  rw [at_some h1]
  simpa using q
theorem notInNK (K : PySem.W.Frag) (P : Program) (w : World) (hu : X.A.units + 64 < cLine) (h : X.K = K := by rfl) (hp : X.prog = P := by rfl) (hw : X.w = w := by rfl) : OpR X (compareOp .NotIn) (rInN K P w true) := by
  subst h hp hw
  intro pins s σ H x y v u Q I rx ry hq
  obtain ⟨a, b, L, k, ep, rfl, rfl, ha, hk, hb, hd, q⟩ := hq
  cases rx; cases ry
  obtain ⟨xs, h1, h2, h3, h4⟩ := dn_of I ha hk
  refine wpAny_notIn_heap (knd := nestedKind X.prog X.w) (by show X.A.units + 1 + 8 < cLine; omega) ⟨NkV.is I _ _ _ hb rfl, hd⟩ h2 h4 ⟨.bl _, H, I.tok _, rfl, ?_⟩
  rw [at_some h1]
  simpa using q
/-- d[k] = v -/
def rSetN (K : PySem.W.Frag) (P : Program) (w : World) : TSet := fun o i v H Q => ∃ (a b : Addr) (L : List DnE) (k : NestedKey) (ep : Nat), o = .ref a ∧ i = .ref b ∧ H a = some (DictN P w a L ep) ∧ KeysN K H L ∧ NkV K H (.ref b) k ∧ k.depth ≤ 8 ∧ L.length < sizeLine ∧ ∀ ep', Q (upd H a (DictN P w a (storeN L k b v) ep'))
theorem setNK (K : PySem.W.Frag) (P : Program) (w : World) (hu : X.A.units + 64 < cLine) (h : X.K = K := by rfl) (hp : X.prog = P := by rfl) (hw : X.w = w := by rfl) : PSet X (rSetN K P w) := by
  subst h hp hw
  intro pins s σ H o i v ov iv u Q I ro ri rv hq
  obtain ⟨a, b, L, k, ep, rfl, rfl, ha, hk, hb, hd, hl, q⟩ := hq
  cases ro; cases ri
  obtain ⟨xs, h1, h2, h3, h4⟩ := dn_of I ha hk
  refine wpAny_setItem_heap (knd := nestedKind X.prog X.w) (by show X.A.units + 1 + 8 < cLine; omega) ⟨NkV.is I _ _ _ hb rfl, hd⟩ h4 (fun h' hm hs => ?_) (by rw [← paired_len h1]; exact h3)
  obtain ⟨ep', k'⟩ := dn_back (store_rel h1 rv) h2 (by have := storeN_len L k b v; omega) hm
  refine ⟨_, I.write (x := a) (e := a) (by rw [ha]; trivial) (.inl rfl) (fun c z hc hz => ?_) ?_ (dictN_ok k'), q ep'⟩
  · rw [hs.2 c hc]; exact hz
  · obtain ⟨o, es, ep, e1, _⟩ := hm
    exact ⟨o, e1⟩
/-- d[k] -/
def tDGetN (K : PySem.W.Frag) (P : Program) (w : World) (td ty : TE) : TE := fun σ H Q => td σ H fun x H1 => ty σ H1 fun y H2 => ∃ (a b c : Addr) (L : List DnE) (k : NestedKey) (v : V) (ep : Nat), x = .ref a ∧ y = .ref b ∧ H2 a = some (DictN P w a L ep) ∧ KeysN K H2 L ∧ NkV K H2 (.ref b) k ∧ k.depth ≤ 8 ∧ atN L k = some (c, v) ∧ Q v H2
theorem pe_dgetN (K : PySem.W.Frag) (P : Program) (w : World) {o i : Expr} {pos : Pos} {td ty : TE} (hu : X.A.units + 64 < cLine) (ho : PE X o td) (hi : PE X i ty) (hs : NoSl i) (h : X.K = K := by rfl) (hp : X.prog = P := by rfl) (hw : X.w = w := by rfl) : PE X (.Subscript o i pos) (tDGetN K P w td ty) := by
  subst h hp hw
  refine ⟨fun pins s σ H Q I h => subD_of F.slot_dict_getitem.lookup hs (thn (ho.run pins s σ H _ I h) fun u s1 hx => ?_)⟩
  obtain ⟨x, H1, I1, rx, q1⟩ := hx
  refine thn (hi.run pins s1 σ H1 _ I1 q1) fun iv s2 hy => ?_
  obtain ⟨y, H2, I2, ry, a, b, c, L, k, v, ep, rfl, rfl, ha, hk, hb, hd, hv, q⟩ := hy
  cases rx; cases ry
  obtain ⟨xs, h1, h2, h3, h4⟩ := dn_of I2 ha hk
  refine ⟨h4.typeIs, ?_⟩
  rcases at_rel (k := k) h1 with ⟨e1, e2⟩ | ⟨l, p, e1, e2, e3, e4⟩
  · rw [hv] at e1; cases e1
  · rw [hv] at e1; cases e1
    exact wpAny_getItem_heap (knd := nestedKind X.prog X.w) (by show X.A.units + 1 + 8 < cLine; omega) ⟨NkV.is I2 _ _ _ hb rfl, hd⟩ h4 e2 ⟨v, H2, I2.tok _, e4, q⟩
end
end LA

set_option maxHeartbeats 4000000
namespace LA
open PySem PySem.Spec PyProof.Rows L2
section
variable {X : Cx} {pins : List (Addr × Obj)} {σ : L2.St} {H : Hp} {s : Shared}
end
end LA

set_option maxHeartbeats 4000000
namespace LA
open PySem PySem.Spec PyProof.Rows L2
mutual
def nkD : NestedKey → PyData
  | .none => .none
  | .num i => .int i
  | .text x => .str x
  | .tup ks => .tuple (nkDs ks)
def nkDs : List NestedKey → List PyData
  | [] => []
  | k :: ks => nkD k :: nkDs ks
end
section
variable {X : Cx} {pins : List (Addr × Obj)} {σ : L2.St} {H : Hp} {s : Shared}
mutual
theorem NkV.reads (I : Inv X pins σ H s) : ∀ (k : NestedKey) (v : V) (u : Value), NkV X.K H v k → RelV v u → Reads s.heap u (nkD k) []
  | .none, v, u, h, r => by
    cases h
    obtain rfl : u = Value.none := r
    exact .none
  | .text x, v, u, h, r => by
    cases h
    obtain ⟨t, e⟩ : ∃ t, u = Value.str x t := r
    subst e; exact .str x t
  | .num i, v, u, h, r => by
    cases h
    obtain ⟨t, e⟩ : ∃ t, u = Value.int i t := r
    subst e; exact .int i t
  | .tup ks, v, u, h, r => by
    cases h with
    | @tup a xs _ hs ha =>
      obtain rfl : u = Value.ref a := r
      obtain ⟨its, rv, ⟨o, g1, g2, n, g3⟩, _⟩ := I.tuple hs
      exact .tuple g1 g2 g3 (by simpa using NkAll.reads I ks xs its ha rv)
theorem NkAll.reads (I : Inv X pins σ H s) : ∀ (ks : List NestedKey) (vs : List V) (us : List Value), NkAll X.K H vs ks → Vals vs us → ReadsAll s.heap us (nkDs ks) []
  | [], vs, us, h, r => by cases h; cases r; exact .nil
  | k :: ks, vs, us, h, r => by
    cases h with
    | cons h1 h2 =>
      cases r with
      | cons r1 r2 => exact (List.append_nil ([] : List Addr)) ▸ .cons (NkV.reads I k _ _ h1 r1) (NkAll.reads I ks _ _ h2 r2)
end
end
section
variable {X : Cx}
end
end LA

set_option maxHeartbeats 4000000
namespace LA
open PySem PySem.Spec PyProof.Rows L2
theorem paired_of_get {α β : Type} {R : α → β → Prop} : ∀ {L : List α} {xs : List β}, L.length = xs.length → (∀ (i : Nat) (a : α) (b : β), L[i]? = some a → xs[i]? = some b → R a b) → Paired R L xs
  | [], [], _, _ => .nil
  | [], _ :: _, h, _ => by simp at h
  | _ :: _, [], h, _ => by simp at h
  | a :: L, b :: xs, h, k => .cons (k 0 a b rfl rfl) (paired_of_get (by simpa using h) fun i x y hx hy => k (i + 1) x y (by simpa using hx) (by simpa using hy))
section
variable {X : Cx}
end
end LA

set_option maxHeartbeats 4000000
namespace LA
open PySem PySem.Spec PyProof.Rows L2
theorem flat_get {α β : Type} (f : α → List β) (c : Nat) : ∀ (l : List α) (i x : Nat) (a : α), (∀ y ∈ l, (f y).length = c) → l[i]? = some a → x < c → (l.flatMap f)[i * c + x]? = (f a)[x]?
  | [], i, x, a, _, h, _ => by simp at h
  | b :: l, 0, x, a, hl, h, hx => by
    simp at h; subst h
    rw [List.flatMap_cons, List.getElem?_append_left (by rw [hl b List.mem_cons_self]; omega)]
    simp
  | b :: l, i + 1, x, a, hl, h, hx => by
    have hb := hl b List.mem_cons_self
    rw [List.flatMap_cons, List.getElem?_append_right (by rw [hb, Nat.add_mul]; omega), hb]
    have e : (i + 1) * c + x - c = i * c + x := by rw [Nat.add_mul]; omega
    rw [e]
    exact flat_get f c l i x a (fun y hy => hl y (List.mem_cons_of_mem _ hy)) (by simpa using h) hx
theorem wAt_get {X k p : Nat} (h : p < X ^ k) : (allW X k)[p]? = some (wAt X k p) := by
  unfold wAt
  rw [List.getElem?_eq_getElem (by rw [allW_len]; exact h)]; rfl
theorem wAt_mem {X k p : Nat} (h : p < X ^ k) : wAt X k p ∈ allW X k := List.mem_of_getElem? (wAt_get h)
theorem wAt_inj {X k p q : Nat} (hp : p < X ^ k) (hq : q < X ^ k) (h : wAt X k p = wAt X k q) : p = q := by
  have nd := sorted_nodup (allW_sorted X k)
  have h1 := wAt_get hp
  have h2 := wAt_get hq
  rw [← h] at h2
  obtain ⟨a1, b1⟩ := List.getElem?_eq_some_iff.mp h1
  obtain ⟨a2, b2⟩ := List.getElem?_eq_some_iff.mp h2
  have hpw := List.pairwise_iff_getElem.mp nd
  rcases Nat.lt_trichotomy p q with z | z | z
  · exact absurd (b1.trans b2.symm) (hpw p q a1 a2 z)
  · exact z
  · exact absurd (b2.trans b1.symm) (hpw q p a2 a1 z)
/-- the last letter -/
theorem wAt_last {X k p x : Nat} (hp : p < X ^ k) (hx : x < X) : wAt X (k + 1) (p * X + x) = wAt X k p ++ [x] := by
  have h := flat_get (fun w => (List.range X).map fun x => w ++ [x]) X (allW X k) p x _ (fun y _ => by simp) (wAt_get hp) hx
  have e : (allW X (k + 1))[p * X + x]? = some (wAt X k p ++ [x]) := by
    show ((allW X k).flatMap fun w => (List.range X).map fun x => w ++ [x])[p * X + x]? = _
    rw [h, List.getElem?_map, List.getElem?_range hx]; rfl
  unfold wAt at e ⊢
  rw [e]; rfl
/-- the first letter -/
theorem wAt_first {X k W : Nat} (hW : W < X * X ^ k) : wAt X (k + 1) W = (W / X ^ k) :: wAt X k (W % X ^ k) := by
  have hX : 0 < X ^ k := by
    rcases Nat.eq_zero_or_pos (X ^ k) with z | z
    · rw [z] at hW; simp at hW
    · exact z
  have h1 : W / X ^ k < X := Nat.div_lt_of_lt_mul (by rw [Nat.mul_comm]; exact hW)
  have h2 : W % X ^ k < X ^ k := Nat.mod_lt _ hX
  have h := flat_get (fun y => (allW X k).map (y :: ·)) (X ^ k) (List.range X) (W / X ^ k) (W % X ^ k) (W / X ^ k) (fun y _ => by rw [List.length_map, allW_len]) (List.getElem?_range h1) h2
  have ew : W / X ^ k * X ^ k + W % X ^ k = W := by rw [Nat.mul_comm]; exact Nat.div_add_mod W _
  rw [ew, ← allW_first, List.getElem?_map, wAt_get h2] at h
  unfold wAt at h ⊢
  rw [h]; rfl
def nextS (j : Jd) (m X : Nat) (S : Nat → Nat → Bool) (s p : Nat) : Bool := S s p && (List.range X).all fun x => okW j m S s (p * X + x)
end LA

set_option maxHeartbeats 4000000
namespace LA
open PySem PySem.Spec PyProof.Rows L2
section
variable {j : Jd} {m X : Nat} {S : Nat → Nat → Bool}
theorem next_safe (h : ∀ s p, SafeP j m X s p → S s p = true) : ∀ s p, SafeP j m X s p → nextS j m X S s p = true := fun s p k => by
  unfold nextS
  rw [h s p k, Bool.true_and, List.all_eq_true]
  intro x hx
  obtain ⟨T, h1, h2, h3⟩ := k
  have hb := h1 s p h3
  exact ansOk_mono (fun s p k => h s p ⟨T, h1, h2, k⟩) (h2 s p hb.1 hb.2 h3 x (List.mem_range.mp hx))
end
def numK (x : Nat) : NestedKey := .num (x : Int)
def prK (pr : Nat × List Nat) : NestedKey := .tup [numK pr.1, .tup (pr.2.map numK)]
theorem map_numK : ∀ u v : List Nat, u.map numK = v.map numK → u = v
  | [], [], _ => rfl
  | [], _ :: _, h => by simp at h
  | _ :: _, [], h => by simp at h
  | a :: u, b :: v, h => by
    simp only [List.map_cons, List.cons.injEq] at h
    have h1 : (a : Int) = (b : Int) := by have := h.1; unfold numK at this; injection this
    rw [map_numK u v h.2, show a = b by omega]
theorem prK_inj {a b : Nat × List Nat} (h : prK a = prK b) : a = b := by
  obtain ⟨s, u⟩ := a
  obtain ⟨t, v⟩ := b
  unfold prK at h
  injection h with h
  injection h with h1 h2
  injection h1 with h1
  injection h2 with h2 _
  injection h2 with h2
  have h3 : u = v := map_numK u v h2
  have h4 : s = t := by have : (s : Int) = (t : Int) := h1; omega
  rw [h3, h4]
end LA

set_option maxHeartbeats 4000000
namespace LA
open PySem PySem.Spec PyProof.Rows L2
theorem nk_ints {K : PySem.W.Frag} {H : Hp} : ∀ w : List Nat, NkAll K H (w.map nV) (w.map numK)
  | [] => .nil
  | x :: w => .cons (.int _) (nk_ints w)
theorem ints_nk {K : PySem.W.Frag} {H : Hp} : ∀ {w : List Nat} {xs : List V}, NkAll K H xs (w.map numK) → xs = w.map nV
  | [], xs, h => by cases h; rfl
  | x :: w, xs, h => by
    cases h with
    | cons h1 h2 =>
      rw [ints_nk h2]
      cases h1
      rfl
theorem depth_ints : ∀ w : List Nat, NestedKey.depthAll (w.map numK) = 0
  | [] => by simp [NestedKey.depthAll]
  | x :: w => by simp [NestedKey.depthAll, numK, NestedKey.depth, depth_ints w]
theorem sameT_ext {H : Hp} {d : Addr} {o : HO} {φ : Heap → Prop} (h : H d = some (.ext φ)) : SameT H (upd H d o) := fun b xs => by
  refine ⟨fun e => ?_, fun o' e => ?_⟩
  · rw [upd_ne (fun z => by rw [z, h] at e; cases e)]; exact e
  · rw [upd_ne (fun z => by rw [z, h] at e; cases e)]; exact e
end LA

set_option maxHeartbeats 4000000
namespace LA
open PySem L2
/-- the states behind some states -/
def behind (r : List (List Nat)) (S : List Nat) : List Nat := upS r.length (fun t => S.any fun s => (r.getD s []).contains t)
/-- a letter's relation -/
def relL (j : Jd) (x : Nat) : List (List Nat) := (List.range j.length).map fun s => upS j.length (fun t => (rowJ j s x).contains (some t))
def compR (a b : List (List Nat)) : List (List Nat) := a.map (behind b)
theorem behind_mem {r : List (List Nat)} {S : List Nat} {t : Nat} : t ∈ behind r S ↔ t < r.length ∧ ∃ s ∈ S, t ∈ r.getD s [] := by
  unfold behind
  rw [upS_mem]
  simp
theorem behind_asc (r : List (List Nat)) (S : List Nat) : (behind r S).Pairwise (· < ·) := upS_asc _ _
theorem nats_eq {a b : List Nat} (ha : a.Pairwise (· < ·)) (hb : b.Pairwise (· < ·)) (h : ∀ x, x ∈ a ↔ x ∈ b) : a = b := by
  have e := asc_eq (nat_asc ha) (nat_asc hb) fun x => by
    simp only [List.mem_map, h]
  exact (List.map_inj_right (fun x y z => by have z' : (x : Int) = (y : Int) := z; omega)).mp e
theorem relL_len (j : Jd) (x : Nat) : (relL j x).length = j.length := by simp [relL]
theorem relL_at {j : Jd} {x s : Nat} (h : s < j.length) : (relL j x).getD s [] = upS j.length (fun t => (rowJ j s x).contains (some t)) := by
  simp [relL, h]
theorem relL_ok (j : Jd) (x : Nat) : IsR j.length (relL j x) := by
  refine ⟨relL_len j x, fun S hS => ?_, fun S hS => ?_⟩
  · obtain ⟨s, hs, rfl⟩ := List.mem_map.mp hS
    exact upS_asc _ _
  · obtain ⟨s, hs, rfl⟩ := List.mem_map.mp hS
    exact fun t ht => (upS_mem.mp ht).1
theorem behind_letter {j : Jd} {x : Nat} {S : List Nat} (hS : ∀ s ∈ S, s < j.length) : behind (relL j x) S = stepS j x S := by
  refine nats_eq (behind_asc _ _) (upS_asc _ _) fun t => ?_
  rw [behind_mem, relL_len]
  unfold stepS
  rw [upS_mem]
  refine and_congr_right fun ht => ?_
  rw [List.any_eq_true]
  constructor
  · rintro ⟨s, hs, h⟩
    rw [relL_at (hS s hs), upS_mem] at h
    exact ⟨s, hs, h.2⟩
  · rintro ⟨s, hs, h⟩
    exact ⟨s, hs, by rw [relL_at (hS s hs), upS_mem]; exact ⟨ht, h⟩⟩
theorem stepS_mem {j : Jd} {x : Nat} {S : List Nat} {t : Nat} : t ∈ stepS j x S ↔ ∃ s ∈ S, t ∈ stepS j x [s] := by
  unfold stepS
  simp only [upS_mem, List.any_eq_true, List.mem_singleton]
  constructor
  · rintro ⟨h1, s, hs, h2⟩; exact ⟨s, hs, h1, s, rfl, h2⟩
  · rintro ⟨s, hs, h1, s', rfl, h2⟩; exact ⟨h1, s', hs, h2⟩
theorem reachS_mem {j : Jd} : ∀ {w S : List Nat} {t : Nat}, t ∈ reachS j w S ↔ ∃ s ∈ S, t ∈ reachS j w [s]
  | [], S, t => by simp [reachS]
  | x :: w, S, t => by
    show t ∈ reachS j w (stepS j x S) ↔ ∃ s ∈ S, t ∈ reachS j w (stepS j x [s])
    rw [reachS_mem (w := w) (S := stepS j x S)]
    constructor
    · rintro ⟨u, hu, h⟩
      obtain ⟨s, hs, hu'⟩ := stepS_mem.mp hu
      exact ⟨s, hs, reachS_mem.mpr ⟨u, hu', h⟩⟩
    · rintro ⟨s, hs, h⟩
      obtain ⟨u, hu, h'⟩ := reachS_mem.mp h
      exact ⟨u, stepS_mem.mpr ⟨s, hs, hu⟩, h'⟩
theorem relW_at {j : Jd} {w : List Nat} {s : Nat} (h : s < j.length) : (relW j w).getD s [] = reachS j w [s] := by simp [relW, h]
theorem behind_word {j : Jd} {w S : List Nat} (hS : ∀ s ∈ S, s < j.length) (ha : S.Pairwise (· < ·)) : behind (relW j w) S = reachS j w S := by
  refine nats_eq (behind_asc _ _) (reachS_asc ha) fun t => ?_
  rw [behind_mem, (relW_ok j w).len, reachS_mem]
  constructor
  · rintro ⟨_, s, hs, h⟩
    rw [relW_at (hS s hs)] at h
    exact ⟨s, hs, h⟩
  · rintro ⟨s, hs, h⟩
    refine ⟨reachS_lt (by simpa using hS s hs) t h, s, hs, ?_⟩
    rw [relW_at (hS s hs)]; exact h
theorem comp_words (j : Jd) (u w : List Nat) : compR (relW j u) (relW j w) = relW j (u ++ w) := by
  unfold compR relW
  rw [List.map_map]
  refine List.map_congr_left fun s hs => ?_
  have hs' := List.mem_range.mp hs
  show behind (relW j w) (reachS j u [s]) = _
  rw [behind_word (reachS_lt (by simpa using hs')) (reachS_asc (by simp)), reachS_app]
theorem comp_letter (j : Jd) (u : List Nat) (x : Nat) : compR (relW j u) (relL j x) = relW j (u ++ [x]) := by
  unfold compR relW
  rw [List.map_map]
  refine List.map_congr_left fun s hs => ?_
  have hs' := List.mem_range.mp hs
  show behind (relL j x) (reachS j u [s]) = _
  rw [behind_letter (reachS_lt (by simpa using hs')), reachS_app]; rfl
theorem relW_nil (j : Jd) : relW j [] = (List.range j.length).map fun s => [s] := rfl
theorem behind_own {n : Nat} {r : List (List Nat)} (h : IsR n r) {s : Nat} (hs : s < n) : behind r [s] = r.getD s [] := by
  have hl : s < r.length := by rw [h.len]; exact hs
  have hm : r.getD s [] ∈ r := by simp [hl]
  refine nats_eq (behind_asc _ _) (h.asc _ hm) fun t => ?_
  rw [behind_mem]
  constructor
  · rintro ⟨_, s', hs', h'⟩
    rw [List.mem_singleton.mp hs'] at h'; exact h'
  · intro h'
    exact ⟨by rw [h.len]; exact h.lt _ hm t h', s, by simp, h'⟩
theorem comp_own {j : Jd} {r : List (List Nat)} (h : IsR j.length r) : compR (relW j []) r = r := by
  unfold compR
  rw [relW_nil, List.map_map]
  refine List.ext_getElem? fun i => ?_
  rw [List.getElem?_map]
  by_cases hi : i < j.length
  · rw [List.getElem?_range hi]
    show some (behind r [i]) = _
    have hl : i < r.length := by rw [h.len]; exact hi
    rw [behind_own h hi, List.getElem?_eq_getElem hl]
    simp [hl]
  · rw [List.getElem?_eq_none (by simp; omega), List.getElem?_eq_none (by rw [h.len]; omega)]; rfl
def addL (l : List Int) (k : Int) : List Int := if k ∈ l then l else l ++ [k]
theorem addL_mem {l : List Int} {k x : Int} : x ∈ addL l k ↔ x ∈ l ∨ x = k := by
  unfold addL
  split
  · rename_i h
    exact ⟨.inl, fun z => z.elim id fun e => e ▸ h⟩
  · simp
theorem addL_nodup {l : List Int} {k : Int} (h : l.Nodup) : (addL l k).Nodup := by
  unfold addL
  split
  · exact h
  · rename_i hk
    rw [List.nodup_append]
    refine ⟨h, by simp, fun a ha b hb => ?_⟩
    rw [List.mem_singleton.mp hb]
    exact fun e => hk (e ▸ ha)
structure SetL (w : World) (H : Hp) (D : Addr) (l : List Int) : Prop where
  at_ : H D = some (SetO w D (fun j => decide (j ∈ l)) l.length)
  nd : l.Nodup
theorem SetL.nil {w : World} {H : Hp} {D : Addr} : SetL w (upd H D (SetO w D (fun _ => false) 0)) D [] := by
  have e : (fun _ : Int => false) = fun j => decide (j ∈ ([] : List Int)) := by funext j; simp
  refine ⟨?_, List.nodup_nil⟩
  rw [upd_same, e]
  rfl
theorem SetL.same {w : World} {H H' : Hp} {D : Addr} {l : List Int} (h : SetL w H D l) (s : Same H H') : SetL w H' D l := ⟨s _ _ h.at_, h.nd⟩
theorem put_int {w : World} {H : Hp} {D : Addr} {l : List Int} {k : Int} {Nx : Hp → Prop} (h : SetL w H D l) (hl : l.length ≤ 4000)
    (q : ∀ o, SetL w (upd H D o) D (addL l k) → Nx (upd H D o)) : putM (rSAdd w) D (.int k) H Nx := by
  refine ⟨D, k, _, _, rfl, rfl, h.at_, by unfold scanBound; omega, q _ ⟨?_, addL_nodup h.nd⟩⟩
  rw [upd_same]
  have e1 : (fun j => decide (j ∈ l) || decide (j = k)) = fun j => decide (j ∈ addL l k) := by
    funext j
    rw [← Bool.decide_or]
    exact decide_eq_decide.mpr addL_mem.symm
  have e2 : (if decide (k ∈ l) = true then l.length else l.length + 1) = (addL l k).length := by
    unfold addL
    by_cases z : k ∈ l
    · rw [if_pos (decide_eq_true z), if_pos z]
    · rw [if_neg (by simpa using z), if_neg z]; simp
  rw [e1, e2]
theorem sort_set {w : World} {H : Hp} {D : Addr} {l : List Int} {Q : VK} (h : SetL w H D l) (hl : l.length < 64)
    (q : ∀ (ns : List Int) (np : Addr), ns.Pairwise (· < ·) → (∀ x, x ∈ ns ↔ x ∈ l) → H np = none → Q (.ref np) (upd H np (.lst (ns.map V.int)))) : rSortedSet w [.ref D] H Q :=
  ⟨D, _, _, rfl, h.at_, hl, fun ns np h1 h2 _ h4 => q ns np h1 (fun x => by rw [h2 x, decide_eq_true_eq]) h4⟩
def wK (S : List Nat) : NestedKey := .tup (S.map numK)
theorem numK_inj {a b : Nat} (h : numK a = numK b) : a = b := by
  unfold numK at h
  injection h with h
  omega
theorem wK_inj {a b : List Nat} (h : wK a = wK b) : a = b := by
  unfold wK at h
  injection h with h
  exact (List.map_inj_right (fun x y z => numK_inj z)).mp h
theorem wK_depth (S : List Nat) : (wK S).depth ≤ 8 := by
  have := depth_ints S
  simp [wK, NestedKey.depth, this]
theorem w_key {K : PySem.W.Frag} {H : Hp} {a : Addr} {S : List Nat} (h : WordAt K H (.ref a) S) : NkV K H (.ref a) (wK S) := by
  obtain ⟨b, e, q⟩ := h
  cases e
  exact .tup q (nk_ints _)
structure KnD (K : PySem.W.Frag) (P : Program) (w : World) (H : Hp) (kd : Addr) (r : List (List Nat)) (L : List DnE) (ep : Nat) : Prop where
  at_ : H kd = some (DictN P w kd L ep)
  keys : KeysN K H L
  val : ∀ l ∈ L, ∃ S : List Nat, l.1 = wK S ∧ WordAt K H l.2.2 (behind r S)
def Kn (K : PySem.W.Frag) (P : Program) (w : World) (H : Hp) (kd : Addr) (r : List (List Nat)) (m : Nat) : Prop := ∃ L ep, KnD K P w H kd r L ep ∧ L.length ≤ m
section
variable {K : PySem.W.Frag} {P : Program} {w : World} {H H' : Hp} {kd : Addr} {r : List (List Nat)} {L : List DnE} {ep m : Nat}
theorem KnD.t (h : KnD K P w H kd r L ep) (s : SameT H H') (e : H' kd = H kd) : KnD K P w H' kd r L ep := ⟨e.trans h.at_, h.keys.t s, fun l hl => let ⟨S, a, b⟩ := h.val l hl; ⟨S, a, b.t s⟩⟩
theorem Kn.same (h : Kn K P w H kd r m) (s : Same H H') : Kn K P w H' kd r m := let ⟨L, ep, a, b⟩ := h; ⟨L, ep, a.t (Same.t s) ((s _ _ a.at_).trans a.at_.symm), b⟩
theorem Kn.mono {m' : Nat} (h : Kn K P w H kd r m) (l : m ≤ m') : Kn K P w H kd r m' := let ⟨L, ep, a, b⟩ := h; ⟨L, ep, a, Nat.le_trans b l⟩
theorem Kn.ext (h : Kn K P w H kd r m) : ∃ φ, H kd = some (.ext φ) := let ⟨L, ep, a, _⟩ := h; ⟨_, a.at_⟩
/-- another dict changes -/
theorem Kn.x {d : Addr} (h : Kn K P w H kd r m) (s : SameX d H H') (hd : ∃ φ, H d = some (.ext φ)) (ne : kd ≠ d) : Kn K P w H' kd r m := by
  obtain ⟨L, ep, a, b⟩ := h
  have t : SameT H H' := fun b xs => ⟨fun e => s _ _ e (fun z => by obtain ⟨φ, hφ⟩ := hd; rw [z, hφ] at e; cases e), fun o e => s _ _ e (fun z => by obtain ⟨φ, hφ⟩ := hd; rw [z, hφ] at e; cases e)⟩
  exact ⟨L, ep, a.t t ((s _ _ a.at_ ne).trans a.at_.symm), b⟩
theorem Kn.st (h : Kn K P w H kd r m) (s : SameX kd H H') : SameT H H' := by
  obtain ⟨φ, hφ⟩ := h.ext
  exact fun b xs => ⟨fun e => s _ _ e (fun z => by rw [z, hφ] at e; cases e), fun o e => s _ _ e (fun z => by rw [z, hφ] at e; cases e)⟩
theorem Kn.none {p : Addr} : Kn K P w (upd H p (DictN P w p [] ep)) p r 0 := ⟨[], ep, ⟨upd_same, nofun, nofun⟩, Nat.le_refl _⟩
/-- what the dict says at a key -/
theorem KnD.get (h : KnD K P w H kd r L ep) (S : List Nat) : atN L (wK S) = none ∨ ∃ b v, atN L (wK S) = some (b, v) ∧ WordAt K H v (behind r S) := by
  cases e : atN L (wK S) with
  | none => exact .inl rfl
  | some q =>
    unfold atN at e
    obtain ⟨l, hl, e2⟩ := Option.map_eq_some_iff.mp e
    have hm := List.mem_of_find?_eq_some hl
    have hk : l.1 = wK S := by simpa using List.find?_some hl
    obtain ⟨S', a1, a2⟩ := h.val l hm
    have : S' = S := wK_inj (a1.symm.trans hk)
    subst this
    exact .inr ⟨q.1, q.2, rfl, by rw [← e2]; exact a2⟩
/-- one entry more -/
theorem KnD.put {S : List Nat} {b : Addr} {v : V} {ep' : Nat} (h : KnD K P w H kd r L ep) (hn : atN L (wK S) = none) (hb : WordAt K H (.ref b) S) (hv : WordAt K H v (behind r S)) :
    KnD K P w (upd H kd (DictN P w kd (storeN L (wK S) b v) ep')) kd r (L ++ [(wK S, b, v)]) ep' ∧ SameT H (upd H kd (DictN P w kd (storeN L (wK S) b v) ep')) := by
  have t : SameT H (upd H kd (DictN P w kd (storeN L (wK S) b v) ep')) := sameT_ext (φ := _) h.at_
  have e : storeN L (wK S) b v = L ++ [(wK S, b, v)] := by unfold storeN; rw [hn]; rfl
  refine ⟨⟨by rw [upd_same, e], ?_, fun l hl => ?_⟩, t⟩
  · rw [← e]
    exact ((h.keys.store (w_key hb) (wK_depth S)).t t)
  · rcases List.mem_append.mp hl with hl | hl
    · obtain ⟨S', a1, a2⟩ := h.val l hl
      exact ⟨S', a1, a2.t t⟩
    · rw [List.mem_singleton.mp hl]
      exact ⟨S, rfl, hv.t t⟩
end
/-- a relation of states: rows of ascending states below n -/
def spBhd (K : PySem.W.Frag) : Sp := fun vs H Q _ => ∃ (sv rv : V) (S : List Nat) (r : List (List Nat)), vs = [sv, rv] ∧ WordAt K H sv S ∧ RAt K H rv r ∧ IsR r.length r ∧ r.length ≤ 8 ∧ (∀ s ∈ S, s < r.length) ∧
  ∀ (H' : Hp) (v : V), Same H H' → WordAt K H' v (behind r S) → Q v H'
def spCompA (K : PySem.W.Frag) (P : Program) (w : World) : Sp := fun vs H Q _ => ∃ (ov rv : V) (kd : Addr) (a r : List (List Nat)) (m : Nat), vs = [ov, rv, .ref kd] ∧ RAt K H ov a ∧ RAt K H rv r ∧ IsR r.length r ∧ r.length ≤ 8 ∧ (∀ S ∈ a, ∀ s ∈ S, s < r.length) ∧ a.length ≤ 8 ∧ Kn K P w H kd r m ∧ m ≤ 900000 ∧
  ∀ (H' : Hp) (v : V), SameX kd H H' → Kn K P w H' kd r (m + a.length) → RAt K H' v (compR a r) → Q v H'
def spNoth (K : PySem.W.Frag) : Sp := fun vs H Q _ => ∃ (jv : V) (j : Jd) (nx ny : Nat), vs = [jv] ∧ JAt K H jv j ∧ IsJ j nx ny ∧ ∀ (H' : Hp) (v : V), Same H H' → RAt K H' v (relW j []) → Q v H'
def spRLet (K : PySem.W.Frag) : Sp := fun vs H Q _ => ∃ (jv : V) (j : Jd) (nx ny x : Nat), vs = [jv, .int (x : Int)] ∧ JAt K H jv j ∧ IsJ j nx ny ∧ x < nx ∧ ∀ (H' : Hp) (v : V), Same H H' → RAt K H' v (relL j x) → Q v H'
def spRLets (K : PySem.W.Frag) : Sp := fun vs H Q _ => ∃ (jv : V) (j : Jd) (nx ny : Nat), vs = [jv] ∧ JAt K H jv j ∧ IsJ j nx ny ∧ ∀ (H' : Hp) (la : Addr) (lvs : List V), Same H H' → H la = none → H' la = some (.lst lvs) → Paired (RAt K H') lvs ((List.range nx).map (relL j)) → Q (.ref la) H'
def spRelOf (K : PySem.W.Frag) : Sp := fun vs H Q _ => ∃ (jv wv : V) (j : Jd) (nx ny : Nat) (wd : List Nat), vs = [jv, wv] ∧ JAt K H jv j ∧ IsJ j nx ny ∧ WordAt K H wv wd ∧ Word nx wd ∧ ∀ (H' : Hp) (v : V), Same H H' → RAt K H' v (relW j wd) → Q v H'
end LA

set_option maxHeartbeats 4000000
namespace LA
open PySem PySem.Spec PyProof.Rows L2 LamX
end LA

set_option maxHeartbeats 4000000
namespace LA
open PySem PySem.Spec PyProof.Rows L2 LamX
section
variable {X : Cx} {pins : List (Addr × Obj)} {σ : L2.St} {H : Hp} {s : Shared}
end
section
variable {X : Cx}
end
theorem _root_.LamX.ExtN.t {H H' : Hp} (e : ExtN H H') : SameT H H' := fun b xs => ⟨fun h => e b _ h (fun ps z => by cases z), fun o h => e b _ h (fun ps z => by cases z)⟩
/-- all but the pot and the tables is as it was -/
def SameN (p : Addr) (H H' : Hp) : Prop := ∀ b o, H b = some o → b ≠ p → (∀ ps, o ≠ .tbl ps) → H' b = some o
theorem SameN.refl (p : Addr) (H : Hp) : SameN p H H := fun _ _ h _ _ => h
theorem SameN.trans {p : Addr} {H H1 H2 : Hp} (a : SameN p H H1) (b : SameN p H1 H2) : SameN p H H2 := fun c o h n m => b c o (a c o h n m) n m
theorem SameX.n {p : Addr} {H H' : Hp} (a : SameX p H H') : SameN p H H' := fun b o h n _ => a b o h n
theorem _root_.L2.Same.n {p : Addr} {H H' : Hp} (a : Same H H') : SameN p H H' := fun b o h _ _ => a b o h
theorem _root_.LamX.ExtN.n {p : Addr} {H H' : Hp} (a : ExtN H H') : SameN p H H' := fun b o h _ m => a b o h m
theorem SameN.own {p q : Addr} {H H' : Hp} {o : HO} (a : SameN p H H') (hq : H q = none) : SameN p H (upd H' q o) := fun c u h n m => by
  rw [upd_ne (ne_of_none h hq)]; exact a c u h n m
theorem _root_.LamX.ExtN.own {q : Addr} {H H' : Hp} {o : HO} (a : ExtN H H') (hq : H q = none) : ExtN H (upd H' q o) := fun c u h m => by
  rw [upd_ne (ne_of_none h hq)]; exact a c u h m
theorem SameN.t {p : Addr} {H H' : Hp} {ys : List V} (a : SameN p H H') (hp : H p = some (.lst ys)) : SameT H H' := fun b xs =>
  ⟨fun h => a b _ h (fun e => by subst e; rw [hp] at h; cases h) (fun ps z => by cases z), fun o h => a b _ h (fun e => by subst e; rw [hp] at h; cases h) (fun ps z => by cases z)⟩
theorem PotAt.ext {H H' : Hp} {p : Addr} {n : Nat} (h : PotAt H p n) (e : ExtN H H') : PotAt H' p n := by
  obtain ⟨a, b, c, h1, r⟩ := h
  exact ⟨a, b, c, e _ _ h1 (fun ps z => by cases z), r⟩
theorem PotAt.tn {H H' : Hp} {p : Addr} {n : Nat} (h : PotAt H p n) (s : SameN p H H') : SameT H H' := let ⟨_, h1⟩ := h.lst; s.t h1
end LA

set_option maxHeartbeats 4000000
namespace LA
open PySem PySem.Spec PyProof.Rows L2 LamX
section
variable {P : Program} {w : World} {K : PySem.W.Frag} {mg : Str → Option Value} {base : Heap}
end
section
variable {X : Cx}
end
theorem WordAt.dq {K : PySem.W.Frag} {p : Addr} {Z : Addr → Prop} {H : Hp} {v : V} {u : List Nat} (h : WordAt K H v u) : Dq K p Z H v (wD u) := by
  obtain ⟨a, rfl, hs⟩ := h
  exact .tup hs (nats_dq u)
theorem nb_yes {n k : Nat} (h : k < n) : isNB (n : Int) (.int (k : Int)) = true := by
  simp only [isNB, Bool.and_eq_true, decide_eq_true_eq]; omega
theorem _root_.LamX.ExtN.sqL {K : PySem.W.Frag} {H H' : Hp} {a : Addr} {xs : List V} (e : ExtN H H') (h : SqL K H a xs) : SqL K H' a xs := by
  rcases h with (h | ⟨o, h⟩) | h
  · exact .inl (.inl (e _ _ h (fun ps z => by cases z)))
  · exact .inl (.inr ⟨o, e _ _ h (fun ps z => by cases z)⟩)
  · exact .inr h
theorem SameN.lst {p q : Addr} {H H' : Hp} {xs : List V} (s : SameN p H H') (n : q ≠ p) (h : H q = some (.lst xs)) : H' q = some (.lst xs) := s _ _ h n (fun ps z => by cases z)
end LA

set_option maxHeartbeats 4000000
namespace LA
open PySem PySem.Spec PyProof.Rows L2 LamX
section
variable {K : PySem.W.Frag} {p : Addr} {Z : Addr → Prop} {H H' : Hp}
mutual
theorem Dq.e (s : ExtN H H') : ∀ (d : PyData) (v : V), Dq K p Z H v d → Dq K p Z H' v d
  | .none, _, h => by cases h; exact .non
  | .bool b, _, h => by cases h; exact .bl b
  | .int i, _, h => by cases h; exact .int i
  | .str x, _, h => by cases h; exact .str x
  | .list ds, _, h => by
    cases h with
    | lst hn hs ha => exact .lst hn (s.sqL hs) (DqAll.e s ds _ ha)
  | .tuple ds, _, h => by
    cases h with
    | tup hs ha => exact .tup (s.t.seq hs) (DqAll.e s ds _ ha)
  | .dict kvs, _, h => by
    cases h with
    | dic0 hn e => exact .dic0 hn (s _ _ e (fun ps z => by cases z))
    | dic1 hn e hd => exact .dic1 hn (s _ _ e (fun ps z => by cases z)) (Dq.e s _ _ hd)
    | dicA hn e hd => exact .dicA hn (s _ _ e (fun ps z => by cases z)) (Dq.e s _ _ hd)
theorem DqAll.e (s : ExtN H H') : ∀ (ds : List PyData) (vs : List V), DqAll K p Z H vs ds → DqAll K p Z H' vs ds
  | [], _, h => by cases h; exact .nil
  | d :: ds, _, h => by
    cases h with
    | cons h1 h2 => exact .cons (Dq.e s d _ h1) (DqAll.e s ds _ h2)
end
theorem Dq.ext {d : PyData} {v : V} (h : Dq K p Z H v d) (s : ExtN H H') : Dq K p Z H' v d := Dq.e s d v h
theorem VL.ext {N S E : Nat} {l : Addr} {vs : List V} {ds : List PyData} (h : VL K p Z N S E H l vs ds) (s : ExtN H H') : VL K p Z N S E H' l vs ds := ⟨s _ _ h.at' (fun ps z => by cases z), h.ne, DqAll.e s _ _ h.dq, h.bd⟩
end
end LA

set_option maxHeartbeats 4000000
namespace LA
open PySem L2 LamX
end LA

set_option maxHeartbeats 4000000
namespace LA
open PySem L2
/-- a tuple of this length -/
def isTL (n : Nat) : PyData → Bool
  | .tuple ds => decide (ds.length = n)
  | _ => false
def spTL (K : PySem.W.Frag) : Sp := fun vs H Q _ => ∃ (p : Addr) (Z : Addr → Prop) (v : V) (d : PyData) (n : Nat), vs = [v, .int (n : Int)] ∧ Dq K p Z H v d ∧ Q (.bl (isTL n d)) H
theorem tl_of {K : PySem.W.Frag} {p : Addr} {Z : Addr → Prop} {H : Hp} {v : V} {d : PyData} {n : Nat} (h : Dq K p Z H v d) : isTL n d = false ∨ isTL n d = true ∧ ∃ a xs ds, v = .ref a ∧ d = .tuple ds ∧ ds.length = n ∧ SqT K H a xs ∧ DqAll K p Z H xs ds := by
  cases h with
  | @tup a xs ds hs ha =>
    by_cases e : ds.length = n
    · exact .inr ⟨decide_eq_true e, _, _, _, rfl, rfl, e, hs, ha⟩
    · exact .inl (decide_eq_false e)
  | _ => exact .inl rfl
end LA
namespace LA
open PySem L2
end LA

set_option maxHeartbeats 4000000
namespace LA
open PySem PySem.Spec PyProof.Rows L2 LamX
end LA
namespace LA
open PySem L2 LamX
section
variable {j j' : Jd} {nx ny nx' ny' : Nat}
theorem row_at (ij : IsJ j nx ny) {s x : Nat} (hs : s < j.length) (hx : x < nx) : ∃ sd, j[s]? = some sd ∧ sd[x]? = some (rowJ j s x) ∧ sd.length = nx ∧ (rowJ j s x).length = ny := by
  have e1 : j[s]? = some j[s] := List.getElem?_eq_getElem hs
  have ho := ij.st j[s] (List.getElem_mem hs)
  have hx' : x < j[s].length := by rw [ho.1]; exact hx
  have e2 : (j[s] : Sd)[x]? = some (j[s][x]) := List.getElem?_eq_getElem hx'
  have e3 : rowJ j s x = j[s][x] := by unfold rowJ; rw [e1]; show (((j[s] : Sd)[x]?).getD []) = _; rw [e2]; rfl
  exact ⟨_, e1, by rw [e3]; exact e2, ho.1, by rw [e3]; exact (ho.2 _ (List.getElem_mem hx')).1⟩
end
end LA

set_option maxHeartbeats 4000000
namespace LA
open PySem PySem.Spec PyProof.Rows L2
section
variable {X : Cx}
end
end LA

set_option maxHeartbeats 4000000
namespace LA
open PySem L2
abbrev Row3 := Nat × List Nat × List Nat
def prOf (r : Row3) : Nat × List Nat := (r.1, r.2.1)
def TrAt (K : PySem.W.Frag) (H : Hp) (v : V) (r : Row3) : Prop := ∃ a b c, v = .ref a ∧ SqT K H a [nV r.1, .ref b, .ref c] ∧ WordAt K H (.ref b) r.2.1 ∧ WordAt K H (.ref c) r.2.2
def TbAt (K : PySem.W.Frag) (H : Hp) (v : V) (t : List Row3) : Prop := ∃ a vs, v = .ref a ∧ SqT K H a vs ∧ Paired (TrAt K H) vs t
theorem TrAt.t {K : PySem.W.Frag} {H H' : Hp} {v : V} {r : Row3} (h : TrAt K H v r) (s : SameT H H') : TrAt K H' v r := let ⟨a, b, c, e, q, x, y⟩ := h; ⟨a, b, c, e, s.seq q, x.t s, y.t s⟩
theorem TbAt.t {K : PySem.W.Frag} {H H' : Hp} {v : V} {r : List Row3} (h : TbAt K H v r) (s : SameT H H') : TbAt K H' v r := let ⟨a, vs, e, q, p⟩ := h; ⟨a, vs, e, s.seq q, paired_map p fun _ _ z => z.t s⟩
def rowD (r : Row3) : PyData := .tuple [.int (r.1 : Int), wD r.2.1, wD r.2.2]
def tabD (t : List Row3) : PyData := .tuple (t.map rowD)
theorem TrAt.dq {K : PySem.W.Frag} {p : Addr} {Z : Addr → Prop} {H : Hp} {v : V} {r : Row3} (h : TrAt K H v r) : Dq K p Z H v (rowD r) := by
  obtain ⟨a, b, c, rfl, q, ⟨b', e1, q1⟩, ⟨c', e2, q2⟩⟩ := h
  cases e1; cases e2
  exact .tup q (.cons (.int _) (.cons (.tup q1 (nats_dq _)) (.cons (.tup q2 (nats_dq _)) .nil)))
theorem TbAt.dq {K : PySem.W.Frag} {p : Addr} {Z : Addr → Prop} {H : Hp} {v : V} {t : List Row3} (h : TbAt K H v t) : Dq K p Z H v (tabD t) := by
  obtain ⟨a, vs, rfl, q, hp⟩ := h
  exact .tup q (paired_dq (fun _ _ z => z.dq) hp)
structure GoodR (n nx ny k : Nat) (r : Row3) : Prop where
  s : r.1 < n
  l : r.2.1.length = k
  w : ∀ x ∈ r.2.1, x < nx
  a : r.2.2.length = nx
  y : ∀ y ∈ r.2.2, y < ny
def follow (j : Jd) (s : Nat) (w u : List Nat) (x : Nat) : Option Nat × List Nat := (entE j s ((w ++ [x]).headD 0) (u.getD x 0), (w ++ [x]).tail)
def oK : Option Nat → NestedKey
  | none => .none
  | some t => numK t
def foK (q : Option Nat × List Nat) : NestedKey := .tup [oK q.1, .tup (q.2.map numK)]
theorem foK_none (u : List Nat) (p : Nat × List Nat) : foK (none, u) ≠ prK p := by
  intro h
  unfold foK prK oK numK at h
  injection h with h
  injection h with h _
  cases h
def inTab (t : List Row3) : Option Nat × List Nat → Bool
  | (none, _) => false
  | (some s, u) => decide ((s, u) ∈ t.map prOf)
def closedB (j : Jd) (t : List Row3) : Bool := (t.flatMap fun r => (List.range r.2.2.length).map fun x => inTab t (follow j r.1 r.2.1 r.2.2 x)).all id
def FoAt (K : PySem.W.Frag) (H : Hp) (v : V) (q : Option Nat × List Nat) : Prop := ∃ a b, v = .ref a ∧ SqT K H a [oV q.1, .ref b] ∧ WordAt K H (.ref b) q.2
theorem FoAt.t {K : PySem.W.Frag} {H H' : Hp} {v : V} {q : Option Nat × List Nat} (h : FoAt K H v q) (s : SameT H H') : FoAt K H' v q := let ⟨a, b, e, x, y⟩ := h; ⟨a, b, e, s.seq x, y.t s⟩
/-- the dict of a table -/
structure TdAt (K : PySem.W.Frag) (P : Program) (w : World) (H : Hp) (d : Addr) (t : List Row3) (L : List DnE) (ep : Nat) : Prop where
  at_ : H d = some (DictN P w d L ep)
  keys : KeysN K H L
  rows : Paired (fun (l : DnE) (r : Row3) => l.1 = prK (prOf r) ∧ WordAt K H l.2.2 r.2.2) L t
theorem TdAt.t {K : PySem.W.Frag} {P : Program} {w : World} {H H' : Hp} {d : Addr} {t : List Row3} {L : List DnE} {ep : Nat} (h : TdAt K P w H d t L ep) (s : SameT H H') (e : H' d = H d) : TdAt K P w H' d t L ep :=
  ⟨e.trans h.at_, h.keys.t s, paired_map h.rows fun _ _ z => ⟨z.1, z.2.t s⟩⟩
theorem TdAt.same {K : PySem.W.Frag} {P : Program} {w : World} {H H' : Hp} {d : Addr} {t : List Row3} {L : List DnE} {ep : Nat} (h : TdAt K P w H d t L ep) (s : Same H H') : TdAt K P w H' d t L ep := h.t (Same.t s) ((s _ _ h.at_).trans h.at_.symm)
theorem td_at {R : DnE → Row3 → Prop} (hR : ∀ l r, R l r → l.1 = prK (prOf r)) (p : Nat × List Nat) : ∀ {L : List DnE} {t : List Row3}, Paired R L t → (atN L (prK p)).isSome = decide (p ∈ t.map prOf)
  | [], [], .nil => rfl
  | l :: L, r :: t, .cons h q => by
    have ih := td_at hR p q
    unfold atN at ih ⊢
    rw [List.find?_cons]
    have e := hR l r h
    by_cases z : l.1 = prK p
    · have : prOf r = p := prK_inj (e.symm.trans z)
      simp [z, this]
    · have hq : ¬ p = prOf r := fun y => z (by rw [e, y])
      have e2 : decide (p ∈ List.map prOf (r :: t)) = decide (p ∈ t.map prOf) := by rw [List.map_cons]; simp [hq]
      rw [e2, decide_eq_false z]
      exact ih
theorem TdAt.in_ {K : PySem.W.Frag} {P : Program} {w : World} {H : Hp} {d : Addr} {t : List Row3} {L : List DnE} {ep : Nat} (h : TdAt K P w H d t L ep) (q : Option Nat × List Nat) : (atN L (foK q)).isSome = inTab t q := by
  obtain ⟨o, u⟩ := q
  cases o with
  | some s => exact td_at (fun l r z => z.1) (s, u) h.rows
  | none =>
    show _ = false
    cases e : atN L (foK (none, u)) with
    | none => rfl
    | some z =>
      unfold atN at e
      obtain ⟨l, hl, _⟩ := Option.map_eq_some_iff.mp e
      have hm := List.mem_of_find?_eq_some hl
      have hk : l.1 = foK (none, u) := by simpa using List.find?_some hl
      obtain ⟨i, hi, e2⟩ := List.getElem_of_mem hm
      obtain ⟨r, _, e3, _⟩ := paired_at h.rows (List.getElem?_eq_getElem hi)
      rw [e2] at e3
      exact absurd (hk.symm.trans e3) (foK_none u _)
theorem inj_map {α β : Type} {f : α → β} : ∀ {l : List α} {a b : α}, (l.map f).Nodup → a ∈ l → b ∈ l → f a = f b → a = b
  | [], _, _, _, h, _, _ => by cases h
  | x :: l, a, b, nd, ha, hb, e => by
    rw [List.map_cons, List.nodup_cons] at nd
    rcases List.mem_cons.mp ha with e1 | ha' <;> rcases List.mem_cons.mp hb with e2 | hb'
    · rw [e1, e2]
    · exact absurd (List.mem_map.mpr ⟨b, hb', by rw [← e, e1]⟩) nd.1
    · exact absurd (List.mem_map.mpr ⟨a, ha', by rw [e, e2]⟩) nd.1
    · exact inj_map nd.2 ha' hb' e
/-- the row of a key, where keys are different -/
theorem TdAt.get {K : PySem.W.Frag} {P : Program} {w : World} {H : Hp} {d : Addr} {t : List Row3} {L : List DnE} {ep : Nat} (h : TdAt K P w H d t L ep) (nd : (t.map prOf).Nodup) {r : Row3} (hr : r ∈ t) : ∃ b v, atN L (prK (prOf r)) = some (b, v) ∧ WordAt K H v r.2.2 := by
  have hs := td_at (fun l r z => z.1) (prOf r) h.rows
  rw [decide_eq_true (List.mem_map.mpr ⟨r, hr, rfl⟩)] at hs
  cases e : atN L (prK (prOf r)) with
  | none => rw [e] at hs; cases hs
  | some q =>
    refine ⟨q.1, q.2, rfl, ?_⟩
    unfold atN at e
    obtain ⟨l, hl, e2⟩ := Option.map_eq_some_iff.mp e
    have hm := List.mem_of_find?_eq_some hl
    have hk : l.1 = prK (prOf r) := by simpa using List.find?_some hl
    obtain ⟨i, hi, e3⟩ := List.getElem_of_mem hm
    obtain ⟨r', hr', e4, e5⟩ := paired_at h.rows (List.getElem?_eq_getElem hi)
    rw [e3] at e4 e5
    have : prOf r' = prOf r := prK_inj (e4.symm.trans hk)
    have : r' = r := inj_map nd (List.mem_of_getElem? hr') hr this
    rw [this, e2] at e5
    exact e5
end LA

set_option maxHeartbeats 4000000
namespace LA
open PySem L2
end LA

set_option maxHeartbeats 4000000
namespace LA
open PySem L2
section
variable {j : Jd} {nx ny k : Nat}
end
end LA

set_option maxHeartbeats 4000000
namespace LA
open PySem L2
def inB (n m s p : Nat) : Bool := decide (s < n) && decide (p < m)
def holdB (j : Jd) (m X : Nat) : Nat → Nat → Nat → Bool
  | 0, s, p => inB j.length m s p
  | n + 1, s, p => inB j.length m s p && (List.range X).all fun x => okW j m (holdB j m X n) s (p * X + x)
def hoK (X k t q r : Nat) : NestedKey := .tup [numK t, .tup ((wAt X k q).map numK), numK r]
theorem hoK_inj {X k t q r t' q' r' : Nat} (hq : q < X ^ k) (hq' : q' < X ^ k) (h : hoK X k t q r = hoK X k t' q' r') : t = t' ∧ q = q' ∧ r = r' := by
  unfold hoK numK at h
  injection h with h
  injection h with h1 h2
  injection h2 with h2 h3
  injection h3 with h3 _
  injection h1 with h1
  injection h3 with h3
  have e : prK (0, wAt X k q) = prK (0, wAt X k q') := by
    unfold prK numK
    exact congrArg (fun z => NestedKey.tup [_, z]) h2
  have := prK_inj e
  injection this with _ e2
  exact ⟨by omega, wAt_inj hq hq' e2, by omega⟩
theorem at_store_ne {L : List DnE} {k k' : NestedKey} {b : Addr} {v : V} (h : k' ≠ k) : atN (storeN L k b v) k' = atN L k' := by
  unfold storeN
  split
  · unfold atN
    rw [List.find?_map, Option.map_map]
    have e : ((fun l : DnE => decide (l.1 = k')) ∘ putN k v) = fun l : DnE => decide (l.1 = k') := by
      funext l; simp only [Function.comp_apply, putN]; split <;> rfl
    rw [e]
    cases hf : L.find? fun l : DnE => decide (l.1 = k') with
    | none => rfl
    | some l =>
      have := List.find?_some hf
      have hl : l.1 = k' := by simpa using this
      simp only [Option.map_some, Function.comp_apply, putN]
      rw [if_neg (by rw [hl]; exact h)]
  · unfold atN
    rw [List.find?_append]
    have : List.find? (fun l : DnE => decide (l.1 = k')) [(k, b, v)] = none := by
      rw [List.find?_cons_of_neg (by simpa using fun e => h e.symm)]; rfl
    rw [this, Option.or_none]
theorem at_store_eq {L : List DnE} {k : NestedKey} {b : Addr} {v : V} : ∃ c, atN (storeN L k b v) k = some (c, v) := by
  unfold storeN
  split
  · next h =>
    unfold atN at h ⊢
    rw [List.find?_map, Option.map_map]
    have e : ((fun l : DnE => decide (l.1 = k)) ∘ putN k v) = fun l : DnE => decide (l.1 = k) := by
      funext l; simp only [Function.comp_apply, putN]; split <;> rfl
    rw [e]
    cases hf : L.find? fun l : DnE => decide (l.1 = k) with
    | none => rw [hf] at h; cases h
    | some l =>
      have := List.find?_some hf
      have hl : l.1 = k := by simpa using this
      exact ⟨l.2.1, by simp only [Option.map_some, Function.comp_apply, putN]; rw [if_pos hl]⟩
  · next h =>
    unfold atN at h ⊢
    refine ⟨b, ?_⟩
    rw [List.find?_append]
    cases hf : L.find? fun l : DnE => decide (l.1 = k) with
    | some l => rw [hf] at h; exact absurd rfl h
    | none => rw [Option.none_or, List.find?_cons_of_pos (by simp)]; rfl
theorem store_keys {L : List DnE} {k : NestedKey} {b : Addr} {v : V} : ((storeN L k b v).map (·.1)) = L.map (·.1) ∨ (k ∉ L.map (·.1) ∧ (storeN L k b v).map (·.1) = L.map (·.1) ++ [k]) := by
  unfold storeN
  split
  · left
    rw [List.map_map]
    congr 1
    funext l; simp only [Function.comp_apply, putN]; split <;> rfl
  · next h =>
    right
    refine ⟨fun hm => h ?_, by rw [List.map_append]; rfl⟩
    obtain ⟨l, hl, e⟩ := List.mem_map.mp hm
    unfold atN
    cases hf : L.find? fun l : DnE => decide (l.1 = k) with
    | some l => rfl
    | none => exact absurd e (by simpa using List.find?_eq_none.mp hf l hl)
theorem nodup_len {α : Type} [DecidableEq α] : ∀ {l r : List α}, l.Nodup → (∀ x ∈ l, x ∈ r) → l.length ≤ r.length
  | [], r, _, _ => Nat.zero_le _
  | x :: l, r, hn, hs => by
    have hx := hs x List.mem_cons_self
    have hn' := List.nodup_cons.mp hn
    have := nodup_len (r := r.erase x) hn'.2 (fun y hy => (List.mem_erase_of_ne (fun e : y = x => hn'.1 (by rw [← e]; exact hy))).mpr (hs y (List.mem_cons_of_mem _ hy)))
    rw [List.length_erase_of_mem hx] at this
    have := List.length_pos_of_mem hx
    simp only [List.length_cons]; omega
/-- what the law's table of holding out says: the entries of up to n turns are right -/
structure HD (j : Jd) (X k : Nat) (L : List DnE) (n : Nat) : Prop where
  nd : (L.map (·.1)).Nodup
  keys : ∀ y ∈ L.map (·.1), ∃ t q r, y = hoK X k t q r ∧ t < j.length ∧ q < X ^ k ∧ r ≤ 60
  right : ∀ t q r c v, q < X ^ k → r ≤ n → atN L (hoK X k t q r) = some (c, v) → v = .bl (holdB j (X ^ k) X r t q)
theorem HD.nil (j : Jd) (X k n : Nat) : HD j X k [] n := ⟨List.nodup_nil, (fun _ h => nomatch h), (fun _ _ _ _ _ _ _ h => nomatch h)⟩
theorem HD.len {j : Jd} {X k n : Nat} {L : List DnE} (h : HD j X k L n) (hb : j.length * X ^ k ≤ 60) : L.length ≤ 10000 := by
  have h1 := nodup_len (r := (List.range j.length).flatMap fun t => (List.range (X ^ k)).flatMap fun q => (List.range 61).map fun r => hoK X k t q r) h.nd (fun y hy => by
    obtain ⟨t, q, r, e, h1, h2, h3⟩ := h.keys y hy
    refine List.mem_flatMap.mpr ⟨t, List.mem_range.mpr h1, List.mem_flatMap.mpr ⟨q, List.mem_range.mpr h2, List.mem_map.mpr ⟨r, List.mem_range.mpr (by omega), e.symm⟩⟩⟩)
  rw [List.length_map] at h1
  have e1 : ∀ (l : List Nat) (t : Nat), (l.flatMap fun q => (List.range 61).map fun r => hoK X k t q r).length = l.length * 61 := by
    intro l t
    induction l with
    | nil => simp
    | cons x l ih => rw [List.flatMap_cons, List.length_append, ih, List.length_map, List.length_range, List.length_cons]; omega
  have e2 : ∀ (l : List Nat), (l.flatMap fun t => (List.range (X ^ k)).flatMap fun q => (List.range 61).map fun r => hoK X k t q r).length = l.length * (X ^ k * 61) := by
    intro l
    induction l with
    | nil => simp
    | cons x l ih => rw [List.flatMap_cons, List.length_append, ih, e1, List.length_range, List.length_cons, Nat.add_mul, Nat.one_mul, Nat.add_comm]
  rw [e2, List.length_range, ← Nat.mul_assoc] at h1
  have := Nat.mul_le_mul_right 61 hb
  omega
/-- a value is put at a key of n + 1 turns -/
theorem HD.put {j : Jd} {X k n t q : Nat} {L : List DnE} {b : Addr} {v : V} (h : HD j X k L n) (ht : t < j.length) (hq : q < X ^ k) (hn : n + 1 ≤ 60) : HD j X k (storeN L (hoK X k t q (n + 1)) b v) n := by
  refine ⟨?_, ?_, ?_⟩
  · rcases store_keys (L := L) (k := hoK X k t q (n + 1)) (b := b) (v := v) with e | ⟨e1, e⟩
    · rw [e]; exact h.nd
    · rw [e]
      refine List.nodup_append.mpr ⟨h.nd, by simp, fun y hy z hz => ?_⟩
      rw [List.mem_singleton] at hz
      subst hz
      exact fun e => e1 (e ▸ hy)
  · rcases store_keys (L := L) (k := hoK X k t q (n + 1)) (b := b) (v := v) with e | ⟨e1, e⟩
    · rw [e]; exact h.keys
    · rw [e]
      intro y hy
      rcases List.mem_append.mp hy with hy | hy
      · exact h.keys y hy
      · rw [List.mem_singleton] at hy
        exact ⟨t, q, n + 1, hy, ht, hq, hn⟩
  · intro t' q' r c v' h1 h2 h3
    rw [at_store_ne (fun e => by have := hoK_inj h1 hq e; omega)] at h3
    exact h.right t' q' r c v' h1 h2 h3
/-- the entries of more than n turns stay -/
def Later (X k : Nat) (L L' : List DnE) (n : Nat) : Prop := ∀ t q r, q < X ^ k → n < r → (atN L' (hoK X k t q r)).map (·.2) = (atN L (hoK X k t q r)).map (·.2)
theorem Later.refl (X k : Nat) (L : List DnE) (n : Nat) : Later X k L L n := fun _ _ _ _ _ => rfl
theorem Later.trans {X k n : Nat} {L L1 L2 : List DnE} (a : Later X k L L1 n) (b : Later X k L1 L2 n) : Later X k L L2 n := fun t q r h1 h2 => (b t q r h1 h2).trans (a t q r h1 h2)
theorem Later.up {X k n n' : Nat} {L L' : List DnE} (a : Later X k L L' n) (h : n ≤ n') : Later X k L L' n' := fun t q r h1 h2 => a t q r h1 (by omega)
theorem Later.put {X k n t q : Nat} {L : List DnE} {b : Addr} {v : V} (hq : q < X ^ k) : Later X k L (storeN L (hoK X k t q (n + 1)) b v) (n + 1) := fun t' q' r h1 h2 => by
  rw [at_store_ne (fun e => by have := hoK_inj h1 hq e; omega)]
/-- after all letters the entry is right -/
theorem HD.right_up {j : Jd} {X k n s p : Nat} {L : List DnE} (h : HD j X k L n) (hr : ∀ t q c v, q < X ^ k → atN L (hoK X k t q (n + 1)) = some (c, v) → v = .bl (holdB j (X ^ k) X (n + 1) t q)) : HD j X k L (n + 1) :=
  ⟨h.nd, h.keys, fun t q r c v h1 h2 h3 => by
    by_cases e : r = n + 1
    · subst e; exact hr t q c v h1 h3
    · exact h.right t q r c v h1 (by omega) h3⟩
/-- all entries of more than n turns stay, but that of the pair s, p with n + 1 -/
def But (X k : Nat) (L L' : List DnE) (n s p : Nat) : Prop := ∀ t q r, q < X ^ k → n < r → ¬ (t = s ∧ q = p ∧ r = n + 1) → (atN L' (hoK X k t q r)).map (·.2) = (atN L (hoK X k t q r)).map (·.2)
theorem But.refl (X k : Nat) (L : List DnE) (n s p : Nat) : But X k L L n s p := fun _ _ _ _ _ _ => rfl
theorem But.put {X k n s p : Nat} {L L' : List DnE} {b : Addr} {v : V} (a : But X k L L' n s p) (hp : p < X ^ k) : But X k L (storeN L' (hoK X k s p (n + 1)) b v) n s p := fun t q r h1 h2 h3 => by
  rw [at_store_ne (fun e => h3 (by have := hoK_inj h1 hp e; exact this))]
  exact a t q r h1 h2 h3
theorem But.on {X k n s p : Nat} {L L' L'' : List DnE} (a : But X k L L' n s p) (b : Later X k L' L'' n) : But X k L L'' n s p := fun t q r h1 h2 h3 => (b t q r h1 h2).trans (a t q r h1 h2 h3)
theorem But.later {X k n s p : Nat} {L L' : List DnE} (a : But X k L L' n s p) : Later X k L L' (n + 1) := fun t q r h1 h2 => a t q r h1 (by omega) (by omega)
theorem Later.at {X k n s p : Nat} {L L' : List DnE} {v : V} (a : Later X k L L' n) (hp : p < X ^ k) (h : ∃ c, atN L (hoK X k s p (n + 1)) = some (c, v)) : ∃ c, atN L' (hoK X k s p (n + 1)) = some (c, v) := by
  obtain ⟨c, h⟩ := h
  have := a s p (n + 1) hp (by omega)
  rw [h] at this
  cases e : atN L' (hoK X k s p (n + 1)) with
  | none => rw [e] at this; cases this
  | some y => rw [e] at this; obtain ⟨y1, y2⟩ := y; injection this with this; exact ⟨y1, by rw [show y2 = v from this]⟩
theorem HD.done {j : Jd} {X k n s p : Nat} {L L' : List DnE} (h : HD j X k L (n + 1)) (h' : HD j X k L' n) (hb : But X k L L' n s p) (hv : ∃ c, atN L' (hoK X k s p (n + 1)) = some (c, .bl (holdB j (X ^ k) X (n + 1) s p))) : HD j X k L' (n + 1) :=
  h'.right_up (s := s) (p := p) fun t q c v hq e => by
    by_cases z : t = s ∧ q = p
    · obtain ⟨rfl, rfl⟩ := z
      obtain ⟨c', e'⟩ := hv
      rw [e] at e'; injection e' with e'; injection e' with _ e'
    · have := hb t q (n + 1) hq (by omega) (fun y => z ⟨y.1, y.2.1⟩)
      rw [e] at this
      cases e2 : atN L (hoK X k t q (n + 1)) with
      | none => rw [e2] at this; cases this
      | some y =>
        rw [e2] at this
        obtain ⟨y1, y2⟩ := y
        injection this with this
        exact (show v = y2 from this) ▸ h.right t q (n + 1) y1 y2 hq (Nat.le_refl _) e2
end LA

set_option maxHeartbeats 4000000
namespace LA
open PySem L2
section
variable {X : Cx}
end
end LA

set_option maxHeartbeats 4000000
namespace LA
open PySem L2
section
variable {j : Jd} {nx ny k : Nat}
end
end LA

set_option maxHeartbeats 4000000
namespace LA
open PySem L2
def ansOf (t : List Row3) (s : Nat) (w : List Nat) : List Nat := ((t.find? fun r => decide (prOf r = (s, w))).map (·.2.2)).getD []
def outY (t : List Row3) (k s : Nat) (ins : List Nat) : Nat := (ansOf t s (ins.take k)).getD (ins.getD k 0) 0
def outS (j : Jd) (t : List Row3) (k s : Nat) (ins : List Nat) : Nat := (entE j s (ins.headD 0) (outY t k s ins)).getD 0
def outF (j : Jd) (t : List Row3) (k : Nat) : Nat → Nat → List Nat → List Nat
  | 0, _, _ => []
  | n + 1, s, ins => outY t k s ins :: outF j t k n (outS j t k s ins) ins.tail
section
variable {j : Jd} {nx ny k : Nat} {t : List Row3}
end
end LA

set_option maxHeartbeats 4000000
namespace LA
open PySem L2
structure TabG (j : Jd) (nx ny k : Nat) (t : List Row3) : Prop where
  good : ∀ r ∈ t, GoodR j.length nx ny k r
  nd : (t.map prOf).Nodup
  cl : closedB j t = true
  st : ∀ w : List Nat, w.length = k → (∀ x ∈ w, x < nx) → (0, w) ∈ t.map prOf
def stF (j : Jd) (t : List Row3) (k : Nat) : Nat → Nat → List Nat → Nat
  | 0, s, _ => s
  | n + 1, s, ins => stF j t k n (outS j t k s ins) ins.tail
section
variable {j : Jd} {nx ny k : Nat} {t : List Row3}
/-- written after these inputs -/
def wrF (j : Jd) (t : List Row3) (k : Nat) (ls : List Nat) : List Nat := outF j t k (ls.length - k) 0 ls
def heF (j : Jd) (t : List Row3) (k : Nat) (ls : List Nat) : Nat := stF j t k (ls.length - k) 0 ls
end
end LA

set_option maxHeartbeats 4000000
namespace LA
open PySem L2 LamX
section
variable {j : Jd} {nx ny s x y : Nat} {o : Option Nat}
end
end LA

set_option maxHeartbeats 4000000
namespace LA
open PySem PySem.Spec PyProof.Rows L2
section
variable {X : Cx}
end
end LA
namespace LA
open PySem L2 LamX
end LA

set_option maxHeartbeats 4000000
namespace LA
open PySem PySem.Spec PyProof.Rows L2
section
variable {X : Cx}
end
end LA
namespace LA
open PySem L2
/-- all but some as before -/
def SameW (W : Addr → Prop) (H H' : Hp) : Prop := ∀ b o, H b = some o → ¬ W b → H' b = some o
structure Ses (H : Hp) (C x dx el : Addr) (jv : V) (evs : List V) : Prop where
  ins : H x = some (.ins C dx [("judge", jv), ("earlier", .ref el)])
  own : H dx = some (.own x)
  lst : H el = some (.lst evs)
theorem Ses.same {H H' : Hp} {C x dx el : Addr} {jv : V} {evs : List V} (h : Ses H C x dx el jv evs) (s : Same H H') : Ses H' C x dx el jv evs := ⟨s _ _ h.ins, s _ _ h.own, s _ _ h.lst⟩
theorem Ses.x {H H' : Hp} {C x dx el p : Addr} {jv : V} {evs : List V} {n : Nat} (h : Ses H C x dx el jv evs) (P : PotAt H p n) (s : SameX p H H') (n1 : el ≠ p) : Ses H' C x dx el jv evs := by
  obtain ⟨_, _, _, hp, _⟩ := P
  refine ⟨s _ _ h.ins fun e => ?_, s _ _ h.own fun e => ?_, s _ _ h.lst n1⟩
  · have z := h.ins; rw [e, hp] at z; cases z
  · have z := h.own; rw [e, hp] at z; cases z
end LA
namespace LA
open PySem L2
theorem Ses.t {H H' : Hp} {C x dx el : Addr} {jv : V} {evs : List V} (h : Ses H C x dx el jv evs) (w : SameW (fun b => b = x ∨ b = el) H H') : SameT H H' := fun b xs => by
  refine ⟨fun e => w _ _ e ?_, fun o e => w _ _ e ?_⟩
  · rintro (rfl | rfl)
    · rw [h.ins] at e; cases e
    · rw [h.lst] at e; cases e
  · rintro (rfl | rfl)
    · rw [h.ins] at e; cases e
    · rw [h.lst] at e; cases e
end LA
namespace LA
open PySem L2
section
variable {K : PySem.W.Frag} {H : Hp}
theorem paired_dp {α : Type} {R : V → α → Prop} {f : α → PyData} (h : ∀ v x, R v x → Dp K H v (f x)) : ∀ {vs : List V} {xs : List α}, Paired R vs xs → DpAll K H vs (xs.map f)
  | _, _, .nil => .nil
  | _, _, .cons a t => .cons (h _ _ a) (paired_dp h t)
theorem o_dp : ∀ r : Rw, DpAll K H (r.map oV) (r.map oD)
  | [] => .nil
  | none :: r => .cons .non (o_dp r)
  | some t :: r => .cons (.int _) (o_dp r)
theorem JAt.dp {v : V} {j : Jd} (h : JAt K H v j) : Dp K H v (jD j) := by
  obtain ⟨a, vs, rfl, q, t⟩ := h
  refine .tup q (paired_dp (fun v s hs => ?_) t)
  obtain ⟨b, us, rfl, q2, t2⟩ := hs
  refine .tup q2 (paired_dp (fun v r hr => ?_) t2)
  obtain ⟨c, rfl, q3⟩ := hr
  exact .tup q3 (o_dp r)
end
end LA
namespace LA
open PySem L2
def spStands (K : PySem.W.Frag) (C : Addr) : Sp := fun vs H Q _ => ∃ (x dx el pl : Addr) (jv pv : V) (evs ps : List V) (j : Jd) (nx ny : Nat), vs = [.ref x, .ref pl] ∧ Ses H C x dx el jv evs ∧ JAt K H jv j ∧ IsJ j nx ny ∧ H pl = some (.lst (ps ++ [pv])) ∧ JAt K H pv j ∧ evs.length = ps.length ∧ ps.length ≤ 900 ∧ ∀ (H' : Hp), Same H H' → Q (.bl true) H'
theorem at_last {ps : List V} {pv : V} : atI (ps ++ [pv]) (-1) = some pv := by
  unfold atI ixN
  simp
  rw [if_pos (by omega)]
  show (ps ++ [pv])[(-1 + ((ps.length : Int) + 1)).toNat]? = _
  rw [show (-1 + ((ps.length:Int) + 1)).toNat = ps.length by omega]
  simp
end LA

set_option maxHeartbeats 4000000
namespace LA
open PySem L2
/-- a session and the law's own list of judges -/
structure SesP (K : PySem.W.Frag) (H : Hp) (C x dx el pl : Addr) (jv : V) (evs : List V) (pv : V) (ps : List V) (j : Jd) (js : List Jd) : Prop where
  ses : Ses H C x dx el jv evs
  lst : H pl = some (.lst (ps ++ [pv]))
  ev : Paired (JAt K H) evs js
  je : JAt K H jv j
  pa : Paired (JAt K H) ps js
  jp : JAt K H pv j
  isj : ∀ j' ∈ js ++ [j], ∃ nx ny, IsJ j' nx ny
  ne : el ≠ pl
section
variable {K : PySem.W.Frag} {H H' : Hp} {C x dx el pl : Addr} {jv : V} {evs : List V} {pv : V} {ps : List V} {j : Jd} {js : List Jd}
theorem Ses.ne (h : Ses H C x dx el jv evs) : x ≠ el ∧ dx ≠ el ∧ dx ≠ x :=
  ⟨fun e => (by have z := h.ins; rw [e, h.lst] at z; cases z), fun e => (by have z := h.own; rw [e, h.lst] at z; cases z), fun e => (by have z := h.own; rw [e, h.ins] at z; cases z)⟩
theorem SesP.w {W : Addr → Prop} (h : SesP K H C x dx el pl jv evs pv ps j js) (s : SameW W H H') (t : SameT H H') (n1 : ¬ W x) (n2 : ¬ W dx) (n3 : ¬ W el) (n4 : ¬ W pl) : SesP K H' C x dx el pl jv evs pv ps j js :=
  ⟨⟨s _ _ h.ses.ins n1, s _ _ h.ses.own n2, s _ _ h.ses.lst n3⟩, s _ _ h.lst n4, paired_map h.ev fun _ _ z => z.t t, h.je.t t, paired_map h.pa fun _ _ z => z.t t, h.jp.t t, h.isj, h.ne⟩
theorem SesP.s (h : SesP K H C x dx el pl jv evs pv ps j js) (s : Same H H') : SesP K H' C x dx el pl jv evs pv ps j js :=
  h.w (W := fun _ => False) (fun b o e _ => s b o e) (Same.t s) id id id id
theorem SesP.px {p : Addr} {n : Nat} (h : SesP K H C x dx el pl jv evs pv ps j js) (P : PotAt H p n) (s : SameX p H H') (n1 : el ≠ p) (n2 : pl ≠ p) : SesP K H' C x dx el pl jv evs pv ps j js := by
  obtain ⟨ys, hp⟩ := P.lst
  refine h.w (W := fun b => b = p) s (P.t s) (fun e => ?_) (fun e => ?_) n1 n2
  · have z := h.ses.ins; rw [e, hp] at z; cases z
  · have z := h.ses.own; rw [e, hp] at z; cases z
theorem SesP.len (h : SesP K H C x dx el pl jv evs pv ps j js) : evs.length = js.length ∧ ps.length = js.length := ⟨paired_len h.ev, paired_len h.pa⟩
theorem SesP.npl (h : SesP K H C x dx el pl jv evs pv ps j js) : x ≠ pl ∧ dx ≠ pl :=
  ⟨fun e => (by have z := h.ses.ins; rw [e, h.lst] at z; cases z), fun e => (by have z := h.ses.own; rw [e, h.lst] at z; cases z)⟩
theorem SesP.changed {H2 : Hp} {j' : Jd} {jv' pv' : V} (h : SesP K H C x dx el pl jv evs pv ps j js) (W : SameW (fun b => b = x ∨ b = el) H H') (S : Ses H' C x dx el jv' (evs ++ [jv])) (hj : JAt K H' jv' j') (S2 : Same H' H2) (hp : JAt K H2 pv' j') (ij : ∃ nx ny, IsJ j' nx ny) :
    SesP K (upd H2 pl (.lst ((ps ++ [pv]) ++ [pv']))) C x dx el pl jv' (evs ++ [jv]) pv' (ps ++ [pv]) j' (js ++ [j]) := by
  have npl := h.npl
  have hpl : H2 pl = some (.lst (ps ++ [pv])) := S2 _ _ (W _ _ h.lst (fun e => e.elim (fun e => npl.1 e.symm) (fun e => h.ne e.symm)))
  have t2 : SameT H2 (upd H2 pl (.lst ((ps ++ [pv]) ++ [pv']))) := SameT.lst hpl
  have t : SameT H (upd H2 pl (.lst ((ps ++ [pv]) ++ [pv']))) := ((h.ses.t W).trans (Same.t S2)).trans t2
  refine ⟨⟨by rw [upd_ne npl.1]; exact S2 _ _ S.ins, by rw [upd_ne npl.2]; exact S2 _ _ S.own, by rw [upd_ne h.ne]; exact S2 _ _ S.lst⟩, upd_same, paired_snoc (paired_map h.ev fun _ _ z => z.t t) (h.je.t t), hj.t ((Same.t S2).trans t2), paired_snoc (paired_map h.pa fun _ _ z => z.t t) (h.jp.t t), hp.t t2, fun j0 h0 => ?_, h.ne⟩
  rcases List.mem_append.mp h0 with z | z
  · exact h.isj j0 z
  · rw [List.mem_singleton.mp z]; exact ij
/-- another session, and the list kept for it -/
def TwinP (K : PySem.W.Frag) (H0 H : Hp) (C x el pl kl : Addr) (tw : V) : Prop := tw = .non ∨ ∃ (xt dxt elt : Addr) (jv : V) (evs : List V) (pv : V) (ps : List V) (j : Jd) (js : List Jd), tw = .ref xt ∧ SesP K H C xt dxt elt kl jv evs pv ps j js ∧ H0 elt = none ∧ H0 kl = none ∧ xt ≠ x ∧ elt ≠ el ∧ elt ≠ pl ∧ kl ≠ el ∧ kl ≠ pl ∧ js.length ≤ 900
theorem TwinP.w {H0 : Hp} {p kl : Addr} {n m : Nat} {tw : V} (h : TwinP K H0 H C x el pl kl tw) (hs : SesP K H C x dx el pl jv evs pv ps j js) (P0 : PotAt H0 p n) (P : PotAt H p m) (s : SameW (fun b => b = x ∨ b = el ∨ b = pl ∨ b = p) H H') (t : SameT H H') : TwinP K H0 H' C x el pl kl tw := by
  rcases h with h | ⟨xt, dxt, elt, jv1, evs1, pv1, ps1, j1, js1, e, g, e1, e2, n1, n2, n3, n4, n5, l⟩
  · exact .inl h
  obtain ⟨ys, hp⟩ := P.lst
  refine .inr ⟨xt, dxt, elt, jv1, evs1, pv1, ps1, j1, js1, e, g.w s t ?_ ?_ ?_ ?_, e1, e2, n1, n2, n3, n4, n5, l⟩
  · rintro (z | z | z | z)
    · exact n1 z
    · have y := g.ses.ins; rw [z, hs.ses.lst] at y; cases y
    · have y := g.ses.ins; rw [z, hs.lst] at y; cases y
    · have y := g.ses.ins; rw [z, hp] at y; cases y
  · rintro (z | z | z | z)
    · have y := g.ses.own; rw [z, hs.ses.ins] at y; cases y
    · have y := g.ses.own; rw [z, hs.ses.lst] at y; cases y
    · have y := g.ses.own; rw [z, hs.lst] at y; cases y
    · have y := g.ses.own; rw [z, hp] at y; cases y
  · rintro (z | z | z | z)
    · have y := g.ses.lst; rw [z, hs.ses.ins] at y; cases y
    · exact n2 z
    · exact n3 z
    · exact P0.ne e1 z
  · rintro (z | z | z | z)
    · have y := g.lst; rw [z, hs.ses.ins] at y; cases y
    · exact n4 z
    · exact n5 z
    · exact P0.ne e2 z
theorem SesP.t {p : Addr} {m : Nat} (hs : SesP K H C x dx el pl jv evs pv ps j js) (P : PotAt H p m) (s : SameW (fun b => b = x ∨ b = el ∨ b = pl ∨ b = p) H H') : SameT H H' := fun b xs => by
  obtain ⟨ys, hp⟩ := P.lst
  refine ⟨fun e => s _ _ e ?_, fun o e => s _ _ e ?_⟩
  · rintro (rfl | rfl | rfl | rfl)
    · rw [hs.ses.ins] at e; cases e
    · rw [hs.ses.lst] at e; cases e
    · rw [hs.lst] at e; cases e
    · rw [hp] at e; cases e
  · rintro (rfl | rfl | rfl | rfl)
    · rw [hs.ses.ins] at e; cases e
    · rw [hs.ses.lst] at e; cases e
    · rw [hs.lst] at e; cases e
    · rw [hp] at e; cases e
/-- the session's promise of _law_stands -/
theorem SesP.stands {Q : VK} {E : XK} (hs : SesP K H C x dx el pl jv evs pv ps j js) (hl : js.length ≤ 900) (q : ∀ H', Same H H' → Q (.bl true) H') : spStands K C [.ref x, .ref pl] H Q E := by
  obtain ⟨nx, ny, ij⟩ := hs.isj j (by simp)
  obtain ⟨l1, l2⟩ := hs.len
  exact ⟨x, dx, el, pl, jv, pv, evs, ps, j, nx, ny, rfl, hs.ses, hs.je, ij, hs.lst, hs.jp, by omega, by omega, q⟩
end
theorem SesP.made {K : PySem.W.Frag} {H2 H3 : Hp} {C x dx el pl : Addr} {jv : V} {j : Jd} {nx ny : Nat} (hl : H2 pl = some (.lst [jv])) (J : JAt K H2 jv j) (ij : IsJ j nx ny) (hx : H2 x = none) (hdx : H2 dx = none) (ne : dx ≠ x) (nel : (upd (upd H2 dx (.own x)) x (.ins C dx [])) el = none) (W : SameW (fun b => b = x) (upd (upd H2 dx (.own x)) x (.ins C dx [])) H3) (g1 : H3 x = some (.ins C dx [("judge", jv), ("earlier", .ref el)])) (g2 : H3 el = some (.lst [])) :
    SesP K H3 C x dx el pl jv [] jv [] j [] ∧ Same H2 H3 ∧ H2 el = none := by
  have S : Same H2 H3 := fun b o hb => W b o (by rw [upd_ne (ne_of_none hb hx), upd_ne (ne_of_none hb hdx)]; exact hb) (ne_of_none hb hx)
  have n1 : el ≠ x := fun e => by rw [e, upd_same] at nel; cases nel
  rw [upd_ne n1] at nel
  have n2 : el ≠ dx := fun e => by rw [e, upd_same] at nel; cases nel
  rw [upd_ne n2] at nel
  refine ⟨⟨⟨g1, W _ _ (by rw [upd_ne ne, upd_same]) ne, g2⟩, S _ _ hl, .nil, J.t (Same.t S), .nil, J.t (Same.t S), fun j' h => ?_, fun e => ?_⟩, S, nel⟩
  · have : j' = j := by simpa using h
    rw [this]; exact ⟨nx, ny, ij⟩
  · rw [e, hl] at nel; cases nel
theorem SameW.four {x el pl p : Addr} {H H' : Hp} (s : SameW (fun b => b = x ∨ b = el ∨ b = pl) H H') : SameW (fun b => b = x ∨ b = el ∨ b = pl ∨ b = p) H H' := fun b o e n => s b o e fun z => n (by rcases z with z | z | z <;> simp [z])
theorem SameX.four {x el pl p : Addr} {H H' : Hp} (s : SameX p H H') : SameW (fun b => b = x ∨ b = el ∨ b = pl ∨ b = p) H H' := fun b o e n => s b o e fun z => n (by simp [z])
theorem SesP.pot {K : PySem.W.Frag} {H H' : Hp} {C x dx el pl p : Addr} {m : Nat} {jv : V} {evs : List V} {pv : V} {ps : List V} {j : Jd} {js : List Jd} (h : SesP K H C x dx el pl jv evs pv ps j js) (P : PotAt H p m) (n1 : el ≠ p) (n2 : pl ≠ p) (s : SameW (fun b => b = x ∨ b = el ∨ b = pl) H H') : PotAt H' p m := by
  obtain ⟨a, b, c, h1, r⟩ := P
  refine ⟨a, b, c, s _ _ h1 ?_, r⟩
  rintro (z | z | z)
  · have y := h.ses.ins; rw [← z, h1] at y; cases y
  · exact n1 z.symm
  · exact n2 z.symm
theorem SameW.same {W : Addr → Prop} {H H1 H2 : Hp} (s : SameW W H H1) (t : Same H1 H2) : SameW W H H2 := fun b o e n => t _ _ (s b o e n)
end LA

set_option maxHeartbeats 4000000
namespace LA
open PySem PySem.Spec PyProof.Rows L2
section
variable {X : Cx} {k j : Nat} {C : Addr} {sp : Sp}
end
end LA

set_option maxHeartbeats 4000000
namespace LA
open PySem L2
theorem nodup_lenD {α : Type} [BEq α] [LawfulBEq α] : ∀ (l D : List α), l.Nodup → (∀ x ∈ l, x ∈ D) → l.length ≤ D.length
  | [], _, _, _ => Nat.zero_le _
  | x :: l, D, hn, hs => by
    obtain ⟨h1, h2⟩ := List.nodup_cons.mp hn
    have hx : x ∈ D := hs x List.mem_cons_self
    have ih := nodup_lenD l (D.erase x) h2 fun y hy => by
      have hne : y ≠ x := fun e => h1 (e ▸ hy)
      exact (List.mem_erase_of_ne hne).2 (hs y (List.mem_cons_of_mem _ hy))
    have e := List.length_erase_of_mem hx
    have hp : 0 < D.length := List.length_pos_of_mem hx
    simp only [List.length_cons]; omega
structure Cv (K : PySem.W.Frag) (P : Program) (w : World) (H : Hp) (C x dx ad ll ol : Addr) (jv tv : V) (j : Jd) (nx ny k : Nat) (t : List Row3) (ls : List Nat) : Prop where
  ins : H x = some (.ins C dx [("judge", jv), ("ahead", .int (k : Int)), ("table", tv), ("answers", .ref ad), ("state", .int (heF j t k ls : Int)), ("letters", .ref ll), ("outputs", .ref ol)])
  own : H dx = some (.own x)
  ltt : H ll = some (.lst (ls.map nV))
  out : H ol = some (.lst ((wrF j t k ls).map nV))
  td : ∃ L ep, TdAt K P w H ad t L ep
  je : JAt K H jv j
  ij : IsJ j nx ny
  tb : TbAt K H tv t
  tg : TabG j nx ny k t
  lx : ∀ z ∈ ls, z < nx
  ne : ll ≠ ol
section
variable {K : PySem.W.Frag} {P : Program} {w : World} {H H' : Hp} {C x dx ad ll ol : Addr} {jv tv : V} {j : Jd} {nx ny k : Nat} {t : List Row3} {ls : List Nat}
/-- a frame: what is not one of its own stays -/
theorem Cv.fr {W : Addr → Prop} (h : Cv K P w H C x dx ad ll ol jv tv j nx ny k t ls) (s : SameW W H H') (tt : SameT H H') (n1 : ¬ W x) (n2 : ¬ W dx) (n3 : ¬ W ad) (n4 : ¬ W ll) (n5 : ¬ W ol) : Cv K P w H' C x dx ad ll ol jv tv j nx ny k t ls := by
  obtain ⟨L, ep, hd⟩ := h.td
  exact ⟨s _ _ h.ins n1, s _ _ h.own n2, s _ _ h.ltt n4, s _ _ h.out n5, ⟨L, ep, hd.t tt ((s _ _ hd.at_ n3).trans hd.at_.symm)⟩, h.je.t tt, h.ij, h.tb.t tt, h.tg, h.lx, h.ne⟩
theorem Cv.s (h : Cv K P w H C x dx ad ll ol jv tv j nx ny k t ls) (s : Same H H') : Cv K P w H' C x dx ad ll ol jv tv j nx ny k t ls :=
  h.fr (W := fun _ => False) (fun b o e _ => s b o e) (Same.t s) id id id id id
theorem Cv.lst_ne (h : Cv K P w H C x dx ad ll ol jv tv j nx ny k t ls) {b : Addr} {ys : List V} (hb : H b = some (.lst ys)) : x ≠ b ∧ dx ≠ b ∧ ad ≠ b := by
  obtain ⟨L, ep, hd⟩ := h.td
  refine ⟨fun e => ?_, fun e => ?_, fun e => ?_⟩
  · have z := h.ins; rw [e, hb] at z; cases z
  · have z := h.own; rw [e, hb] at z; cases z
  · have z := hd.at_; rw [e, hb] at z; unfold DictN at z; cases z
theorem Cv.px {p : Addr} {n : Nat} (h : Cv K P w H C x dx ad ll ol jv tv j nx ny k t ls) (Pp : PotAt H p n) (s : SameX p H H') (n1 : ll ≠ p) (n2 : ol ≠ p) : Cv K P w H' C x dx ad ll ol jv tv j nx ny k t ls := by
  obtain ⟨ys, hp⟩ := Pp.lst
  have e := h.lst_ne hp
  exact h.fr (W := fun b => b = p) s (Pp.t s) e.1 e.2.1 e.2.2 n1 n2
/-- another list is changed -/
theorem Cv.lst {b : Addr} {ys zs : List V} (h : Cv K P w H C x dx ad ll ol jv tv j nx ny k t ls) (hb : H b = some (.lst ys)) (n1 : ll ≠ b) (n2 : ol ≠ b) : Cv K P w (upd H b (.lst zs)) C x dx ad ll ol jv tv j nx ny k t ls := by
  have e := h.lst_ne hb
  exact h.fr (W := fun a => a = b) (fun a o e' na => by rw [upd_ne na]; exact e') (SameT.lst hb) e.1 e.2.1 e.2.2 n1 n2
theorem Cv.t3 (h : Cv K P w H C x dx ad ll ol jv tv j nx ny k t ls) (W : SameW (fun b => b = x ∨ b = ll ∨ b = ol) H H') : SameT H H' := fun b xs => by
  refine ⟨fun e => W _ _ e ?_, fun o e => W _ _ e ?_⟩
  · rintro (rfl | rfl | rfl)
    · rw [h.ins] at e; cases e
    · rw [h.ltt] at e; cases e
    · rw [h.out] at e; cases e
  · rintro (rfl | rfl | rfl)
    · rw [h.ins] at e; cases e
    · rw [h.ltt] at e; cases e
    · rw [h.out] at e; cases e
end
end LA

set_option maxHeartbeats 1000000
namespace LA
def valW (nx : Nat) (w : List Nat) : Nat := w.foldl (fun a x => a * nx + x + 1) 0
theorem val_snoc (nx : Nat) (u : List Nat) (x : Nat) : valW nx (u ++ [x]) = valW nx u * nx + x + 1 := by
  unfold valW
  rw [List.foldl_append]; rfl
theorem val_nil (nx : Nat) : valW nx [] = 0 := rfl
theorem snoc_of {w : List Nat} (h : w ≠ []) : ∃ u x, w = u ++ [x] := ⟨w.dropLast, w.getLast h, (List.dropLast_concat_getLast h).symm⟩
/-- a word over so many letters -/
def OvW (nx : Nat) (w : List Nat) : Prop := ∀ x ∈ w, x < nx
theorem OvW.snoc {nx : Nat} {u : List Nat} {x : Nat} (h : OvW nx u) (hx : x < nx) : OvW nx (u ++ [x]) := fun y hy => by
  rcases List.mem_append.mp hy with z | z
  · exact h y z
  · rw [List.mem_singleton.mp z]; exact hx
theorem OvW.init {nx : Nat} {u : List Nat} {x : Nat} (h : OvW nx (u ++ [x])) : OvW nx u ∧ x < nx := ⟨fun y hy => h y (List.mem_append_left _ hy), h x (by simp)⟩
theorem val_div {a b x y nx : Nat} (hx : x < nx) (hy : y < nx) (h : a * nx + x + 1 = b * nx + y + 1) : a = b ∧ x = y := by
  rcases Nat.lt_trichotomy a b with c | c | c
  · have : (a + 1) * nx ≤ b * nx := Nat.mul_le_mul_right _ c
    rw [Nat.succ_mul] at this
    omega
  · subst c; exact ⟨rfl, by omega⟩
  · have : (b + 1) * nx ≤ a * nx := Nat.mul_le_mul_right _ c
    rw [Nat.succ_mul] at this
    omega
theorem val_inj {nx : Nat} : ∀ (n : Nat) (u w : List Nat), u.length = n → OvW nx u → OvW nx w → valW nx u = valW nx w → u = w
  | 0, u, w, hn, hu, hw, h => by
    have : u = [] := List.length_eq_zero_iff.mp hn
    subst this
    rcases Classical.em (w = []) with e | e
    · exact e.symm
    · obtain ⟨v, y, rfl⟩ := snoc_of e
      rw [val_nil, val_snoc] at h; omega
  | n + 1, u, w, hn, hu, hw, h => by
    have ue : u ≠ [] := fun z => by subst z; cases hn
    obtain ⟨a, x, rfl⟩ := snoc_of ue
    rcases Classical.em (w = []) with e | e
    · subst e
      rw [val_nil, val_snoc] at h; omega
    · obtain ⟨b, y, rfl⟩ := snoc_of e
      rw [val_snoc, val_snoc] at h
      obtain ⟨e1, e2⟩ := val_div hu.init.2 hw.init.2 h
      subst e2
      rw [val_inj n a b (by simpa using hn) hu.init.1 hw.init.1 e1]
theorem val_lt_snoc {nx : Nat} (h0 : 0 < nx) (u : List Nat) (x : Nat) : valW nx u < valW nx (u ++ [x]) := by
  rw [val_snoc]
  have : valW nx u * 1 ≤ valW nx u * nx := Nat.mul_le_mul_left _ h0
  omega
def Lst (j : Jd) (nx : Nat) (w : List Nat) : Prop := w ≠ [] ∧ OvW nx w ∧ ∀ u, u ≠ [] → OvW nx u → relW j u = relW j w → valW nx w ≤ valW nx u
theorem Lst.init {j : Jd} {nx : Nat} {v : List Nat} {y : Nat} (h : Lst j nx (v ++ [y])) (hv : v ≠ []) : Lst j nx v := by
  obtain ⟨h1, h2, h3⟩ := h
  refine ⟨hv, h2.init.1, fun u hu ho hr => ?_⟩
  have := h3 (u ++ [y]) (by simp) (ho.snoc h2.init.2) (by rw [← comp_letter, ← comp_letter, hr])
  rw [val_snoc, val_snoc] at this
  have hp : 0 < nx := by have := h2.init.2; omega
  exact Nat.le_of_mul_le_mul_right (show valW nx v * nx ≤ valW nx u * nx by omega) hp
theorem Lst.of {j : Jd} {nx : Nat} {w : List Nat} (hw : w ≠ []) (ho : OvW nx w) : ∃ u, Lst j nx u ∧ relW j u = relW j w := by
  have key : ∀ (n : Nat) (w : List Nat), valW nx w ≤ n → w ≠ [] → OvW nx w → ∃ u, Lst j nx u ∧ relW j u = relW j w := by
    intro n
    induction n with
    | zero =>
      intro w hv hw ho
      obtain ⟨a, x, rfl⟩ := snoc_of hw
      rw [val_snoc] at hv; omega
    | succ n ih =>
      intro w hv hw ho
      rcases Classical.em (∃ u, u ≠ [] ∧ OvW nx u ∧ relW j u = relW j w ∧ valW nx u < valW nx w) with ⟨u, h1, h2, h3, h4⟩ | h
      · obtain ⟨t, ht, e⟩ := ih u (by omega) h1 h2
        exact ⟨t, ht, e.trans h3⟩
      · refine ⟨w, ⟨hw, ho, fun u h1 h2 h3 => ?_⟩, rfl⟩
        rcases Nat.lt_or_ge (valW nx u) (valW nx w) with c | c
        · exact absurd ⟨u, h1, h2, h3, c⟩ h
        · exact c
  exact key _ w (Nat.le_refl _) hw ho
theorem Lst.uniq {j : Jd} {nx : Nat} {u w : List Nat} (hu : Lst j nx u) (hw : Lst j nx w) (h : relW j u = relW j w) : u = w :=
  val_inj _ u w rfl hu.2.1 hw.2.1 (Nat.le_antisymm (hu.2.2 w hw.1 hw.2.1 h.symm) (hw.2.2 u hu.1 hu.2.1 h))
structure GrI (j : Jd) (nx : Nat) (ws : List (List Nat)) (B : Nat) : Prop where
  first : ∃ t, ws = [] :: t
  inc : ws.Pairwise (fun u w => valW nx u < valW nx w)
  mem : ∀ w, w ≠ [] → (w ∈ ws ↔ Lst j nx w ∧ valW nx w < B)
theorem GrI.nil (j : Jd) (nx : Nat) : GrI j nx [[]] 1 := by
  refine ⟨⟨[], rfl⟩, by simp, fun w hw => ⟨fun h => absurd (List.mem_singleton.mp h) hw, fun ⟨h1, h2⟩ => ?_⟩⟩
  obtain ⟨a, x, rfl⟩ := snoc_of hw
  rw [val_snoc] at h2; omega
theorem GrI.over {j : Jd} {nx : Nat} {ws : List (List Nat)} {B : Nat} (g : GrI j nx ws B) {w : List Nat} (h : w ∈ ws) : OvW nx w := by
  rcases Classical.em (w = []) with e | e
  · subst e; exact nofun
  · exact ((g.mem w e).mp h).1.2.1
theorem GrI.lt {j : Jd} {nx : Nat} {ws : List (List Nat)} {B : Nat} (g : GrI j nx ws B) (hB : 0 < B) {w : List Nat} (h : w ∈ ws) : valW nx w < B := by
  rcases Classical.em (w = []) with e | e
  · subst e; exact hB
  · exact ((g.mem w e).mp h).2
/-- the word has a relation that is there -/
theorem GrI.old {j : Jd} {nx : Nat} {ws : List (List Nat)} {u : List Nat} {x : Nat} (g : GrI j nx ws (valW nx u * nx + x + 1)) (hx : x < nx) (hu : OvW nx u) (h : ∃ w ∈ ws, w ≠ [] ∧ relW j w = relW j (u ++ [x])) : GrI j nx ws (valW nx u * nx + (x + 1) + 1) := by
  refine ⟨g.first, g.inc, fun w hw => ?_⟩
  rw [g.mem w hw]
  refine ⟨fun ⟨a, b⟩ => ⟨a, by omega⟩, fun ⟨a, b⟩ => ⟨a, ?_⟩⟩
  rcases Nat.lt_or_ge (valW nx w) (valW nx u * nx + x + 1) with c | c
  · exact c
  · exfalso
    have e : valW nx w = valW nx (u ++ [x]) := by rw [val_snoc]; omega
    have ew := val_inj _ w _ rfl a.2.1 (hu.snoc hx) e
    obtain ⟨w', h1, h2, h3⟩ := h
    have h4 := ((g.mem w' h2).mp h1)
    have := a.2.2 w' h2 h4.1.2.1 (by rw [ew]; exact h3)
    omega
/-- it is new -/
theorem GrI.new {j : Jd} {nx : Nat} {ws : List (List Nat)} {u : List Nat} {x : Nat} (g : GrI j nx ws (valW nx u * nx + x + 1)) (hx : x < nx) (hu : OvW nx u) (h : ∀ w ∈ ws, w ≠ [] → relW j w ≠ relW j (u ++ [x])) : GrI j nx (ws ++ [u ++ [x]]) (valW nx u * nx + (x + 1) + 1) ∧ Lst j nx (u ++ [x]) := by
  have hl : Lst j nx (u ++ [x]) := by
    obtain ⟨t, ht, e⟩ := Lst.of (j := j) (show u ++ [x] ≠ [] by simp) (hu.snoc hx)
    have h1 := ht.2.2 (u ++ [x]) (by simp) (hu.snoc hx) e.symm
    rw [val_snoc] at h1
    rcases Nat.lt_or_ge (valW nx t) (valW nx u * nx + x + 1) with c | c
    · exact absurd e (h t ((g.mem t ht.1).mpr ⟨ht, c⟩) ht.1)
    · have ee := val_inj _ t _ rfl ht.2.1 (hu.snoc hx) (by rw [val_snoc]; omega)
      rw [← ee]; exact ht
  refine ⟨⟨?_, ?_, fun w hw => ?_⟩, hl⟩
  · obtain ⟨t, rfl⟩ := g.first
    exact ⟨t ++ [u ++ [x]], rfl⟩
  · rw [List.pairwise_append]
    refine ⟨g.inc, by simp, fun a ha b hb => ?_⟩
    rw [List.mem_singleton.mp hb, val_snoc]
    exact g.lt (by omega) ha
  · rw [List.mem_append, List.mem_singleton, g.mem w hw]
    constructor
    · rintro (⟨a, b⟩ | rfl)
      · exact ⟨a, by omega⟩
      · exact ⟨hl, by rw [val_snoc]; omega⟩
    · rintro ⟨a, b⟩
      rcases Nat.lt_or_ge (valW nx w) (valW nx u * nx + x + 1) with c | c
      · exact .inl ⟨a, c⟩
      · exact .inr (val_inj _ w _ rfl a.2.1 (hu.snoc hx) (by rw [val_snoc]; omega))
theorem inc_between {nx : Nat} {ws : List (List Nat)} (inc : ws.Pairwise (fun u w => valW nx u < valW nx w)) {i : Nat} {u u' v : List Nat} (h1 : ws[i]? = some u) (h2 : ws[i + 1]? = some u') (hv : v ∈ ws) (a : valW nx u < valW nx v) (b : valW nx v < valW nx u') : False := by
  obtain ⟨m, hm, e⟩ := List.getElem_of_mem hv
  obtain ⟨i1, e1⟩ := List.getElem?_eq_some_iff.mp h1
  obtain ⟨i2, e2⟩ := List.getElem?_eq_some_iff.mp h2
  have P := List.pairwise_iff_getElem.mp inc
  rcases Nat.lt_trichotomy m i with c | c | c
  · have := P m i hm i1 c
    rw [e, e1] at this; omega
  · subst c
    rw [e1] at e; subst e; omega
  · rcases Nat.lt_trichotomy m (i + 1) with d | d | d
    · omega
    · subst d
      rw [e2] at e; subst e; omega
    · have := P (i + 1) m i2 hm d
      rw [e, e2] at this; omega
/-- the next place -/
theorem GrI.next {j : Jd} {nx : Nat} {ws : List (List Nat)} {i : Nat} {u u' : List Nat} (h0 : 0 < nx) (g : GrI j nx ws (valW nx u * nx + nx + 1)) (h1 : ws[i]? = some u) (h2 : ws[i + 1]? = some u') : GrI j nx ws (valW nx u' * nx + 0 + 1) := by
  have hlt : valW nx u < valW nx u' := by
    obtain ⟨i1, e1⟩ := List.getElem?_eq_some_iff.mp h1
    obtain ⟨i2, e2⟩ := List.getElem?_eq_some_iff.mp h2
    have := List.pairwise_iff_getElem.mp g.inc i (i + 1) i1 i2 (by omega)
    rw [e1, e2] at this; exact this
  have hm : (valW nx u + 1) * nx ≤ valW nx u' * nx := Nat.mul_le_mul_right _ hlt
  rw [Nat.succ_mul] at hm
  refine ⟨g.first, g.inc, fun w hw => ?_⟩
  rw [g.mem w hw]
  refine ⟨fun ⟨a, b⟩ => ⟨a, by omega⟩, fun ⟨a, b⟩ => ⟨a, ?_⟩⟩
  rcases Nat.lt_or_ge (valW nx w) (valW nx u * nx + nx + 1) with c | c
  · exact c
  · exfalso
    obtain ⟨v, y, rfl⟩ := snoc_of hw
    rw [val_snoc] at b c
    have hy := a.2.1.init.2
    have k1 : valW nx u < valW nx v := by
      rcases Nat.lt_or_ge (valW nx u) (valW nx v) with z | z
      · exact z
      · have := Nat.mul_le_mul_right nx z
        omega
    have k2 : valW nx v < valW nx u' := by
      rcases Nat.lt_or_ge (valW nx v) (valW nx u') with z | z
      · exact z
      · have := Nat.mul_le_mul_right nx z
        omega
    have hv : v ≠ [] := fun z => by rw [z, val_nil] at k1; omega
    have hu' := g.lt (by omega) (List.mem_of_getElem? h2)
    exact inc_between g.inc h1 h2 ((g.mem v hv).mpr ⟨a.init hv, by omega⟩) k1 k2
/-- the end -/
structure GrE (j : Jd) (nx : Nat) (ws : List (List Nat)) : Prop where
  first : ∃ t, ws = [] :: t
  inc : ws.Pairwise (fun u w => valW nx u < valW nx w)
  mem : ∀ w, w ≠ [] → (w ∈ ws ↔ Lst j nx w)
theorem GrI.done {j : Jd} {nx : Nat} {ws : List (List Nat)} {i : Nat} {u : List Nat} (h0 : 0 < nx) (g : GrI j nx ws (valW nx u * nx + nx + 1)) (h1 : ws[i]? = some u) (h2 : ws.length = i + 1) : GrE j nx ws := by
  have top : ∀ v ∈ ws, valW nx v ≤ valW nx u := by
    intro v hv
    obtain ⟨m, hm, e⟩ := List.getElem_of_mem hv
    obtain ⟨i1, e1⟩ := List.getElem?_eq_some_iff.mp h1
    rcases Nat.lt_or_ge m i with c | c
    · have := List.pairwise_iff_getElem.mp g.inc m i hm i1 c
      rw [e, e1] at this; omega
    · have : m = i := by omega
      subst this
      rw [e1] at e; subst e; exact Nat.le_refl _
  have key : ∀ (n : Nat) (w : List Nat), w.length ≤ n → Lst j nx w → w ∈ ws := by
    intro n
    induction n with
    | zero => intro w hl h; exact absurd (List.length_eq_zero_iff.mp (by omega)) h.1
    | succ n ih =>
      intro w hl h
      obtain ⟨v, y, rfl⟩ := snoc_of h.1
      refine (g.mem _ h.1).mpr ⟨h, ?_⟩
      have hy := h.2.1.init.2
      rw [val_snoc]
      rcases Classical.em (v = []) with e | e
      · subst e
        rw [val_nil]; omega
      · have := top v (ih v (by simpa using hl) (h.init e))
        have := Nat.mul_le_mul_right nx this
        omega
  exact ⟨g.first, g.inc, fun w hw => ⟨fun h => ((g.mem w hw).mp h).1, fun h => key _ w (Nat.le_refl _) h⟩⟩
/-- a relation of some word other than () -/
def IsRl (j : Jd) (nx : Nat) (r : List (List Nat)) : Prop := ∃ w, w ≠ [] ∧ OvW nx w ∧ r = relW j w
def ManyR (j : Jd) (nx : Nat) : Prop := ∃ l : List (List (List Nat)), l.Nodup ∧ (∀ r ∈ l, IsRl j nx r) ∧ l.length = 2001
theorem GrE.rels {j : Jd} {nx : Nat} {ws : List (List Nat)} (g : GrE j nx ws) (r : List (List Nat)) : r ∈ ws.tail.map (relW j) ↔ IsRl j nx r := by
  obtain ⟨t, rfl⟩ := g.first
  have nt : ∀ w ∈ t, w ≠ [] := fun w hw e => by
    have := (List.pairwise_cons.mp g.inc).1 w hw
    rw [e] at this; omega
  rw [List.tail_cons, List.mem_map]
  constructor
  · rintro ⟨w, hw, rfl⟩
    have h := (g.mem w (nt w hw)).mp (List.mem_cons_of_mem _ hw)
    exact ⟨w, h.1, h.2.1, rfl⟩
  · rintro ⟨w, h1, h2, rfl⟩
    obtain ⟨u, hu, e⟩ := Lst.of (j := j) h1 h2
    have hm := (g.mem u hu.1).mpr hu
    rcases List.mem_cons.mp hm with z | z
    · exact absurd z hu.1
    · exact ⟨u, z, e⟩
theorem tail_nodup {j : Jd} {nx : Nat} {ws : List (List Nat)} (first : ∃ t, ws = [] :: t) (inc : ws.Pairwise (fun u w => valW nx u < valW nx w)) (mem : ∀ w ∈ ws, w ≠ [] → Lst j nx w) : (ws.tail.map (relW j)).Nodup ∧ ∀ r ∈ ws.tail.map (relW j), IsRl j nx r := by
  obtain ⟨t, rfl⟩ := first
  have nt : ∀ w ∈ t, w ≠ [] := fun w hw e => by
    have := (List.pairwise_cons.mp inc).1 w hw
    rw [e] at this; omega
  have lt : ∀ w ∈ t, Lst j nx w := fun w hw => mem w (List.mem_cons_of_mem _ hw) (nt w hw)
  rw [List.tail_cons]
  refine ⟨?_, fun r hr => ?_⟩
  · rw [List.nodup_iff_pairwise_ne, List.pairwise_map]
    refine List.Pairwise.imp_of_mem (fun {a b} ha hb hl e => ?_) (List.pairwise_cons.mp inc).2
    have := (lt a ha).uniq (lt b hb) e
    rw [this] at hl; omega
  · obtain ⟨w, hw, rfl⟩ := List.mem_map.mp hr
    exact ⟨w, nt w hw, (lt w hw).2.1, rfl⟩
theorem GrE.nodup {j : Jd} {nx : Nat} {ws : List (List Nat)} (g : GrE j nx ws) : (ws.tail.map (relW j)).Nodup := (tail_nodup g.first g.inc fun w hw hn => (g.mem w hn).mp hw).1
theorem GrE.few {j : Jd} {nx : Nat} {ws : List (List Nat)} (g : GrE j nx ws) (h : ws.length ≤ 2001) : ¬ ManyR j nx := by
  rintro ⟨l, nd, hl, hn⟩
  have := nodup_lenD l (ws.tail.map (relW j)) nd fun r hr => (g.rels r).mpr (hl r hr)
  rw [List.length_map, List.length_tail] at this
  omega
end LA

set_option maxHeartbeats 4000000
namespace LA
open PySem PySem.Spec PyProof.Rows L2
section
variable {X : Cx}
end
end LA

set_option maxHeartbeats 4000000
namespace LA
open PySem L2
theorem eqvAll_dec {α : Type} [DecidableEq α] {f : α → PyData} (h : ∀ a b, PyData.eqv (f a) (f b) = decide (a = b)) : ∀ l l' : List α, PyData.eqvAll (l.map f) (l'.map f) = decide (l = l')
  | [], [] => by simp [PyData.eqvAll]
  | [], _ :: _ => by simp [PyData.eqvAll]
  | _ :: _, [] => by simp [PyData.eqvAll]
  | a :: l, b :: l' => by
    simp only [List.map_cons, PyData.eqvAll, h, eqvAll_dec h l l']
    rw [Bool.eq_iff_iff]
    simp
section
variable {j j' : Jd} {nx ny s x y : Nat} {o : Option Nat}
end
structure FrS (K : PySem.W.Frag) (C : Addr) : Prop where
  ic : C8.InsC K C
  no : ∀ t ∈ ["NoneType", "int", "tuple", "str", "list"], PySem.W.subIn K (.type t) (.ref C) = some false
  is' : PySem.W.isClsIn K C = true
  tt : PySem.W.typeIn K (.ref C) = some (.type "type")
theorem FrS.ty {K : PySem.W.Frag} {C a dx : Addr} {H : Hp} {fs : List (Str × V)} (F : FrS K C) (h : H a = some (.ins C dx fs)) : TyX K H (.ref a) (.ref C) := .base (.ins h F.ic.cl F.ic.ha F.ic.hn F.ic.htk F.ic.hm)
theorem FrS.nf {K : PySem.W.Frag} {C : Addr} (F : FrS K C) {t : String} (h : t ∈ ["NoneType", "int", "tuple", "str", "list"]) : PySem.W.notFirst K C (.type t) = true := by
  unfold PySem.W.notFirst
  rw [F.no t h]
  simp
end LA

set_option maxHeartbeats 4000000
namespace LA
open PySem L2
section
variable {K : PySem.W.Frag} {H : Hp}
theorem RAt.dp {v : V} {r : List (List Nat)} (h : RAt K H v r) : Dp K H v (relD r) := by
  obtain ⟨a, vs, rfl, q, t⟩ := h
  exact .tup q (paired_dp (fun v s hs => hs.dp) t)
end
theorem lay_w : ∀ w : List Nat, PyData.canLayAll0 (w.map nD) = true
  | [] => by simp [PyData.canLayAll0]
  | x :: w => by simp [PyData.canLayAll0, PyData.canLay0, nD, lay_w w]
theorem lay_ws : ∀ r : List (List Nat), PyData.canLayAll0 (r.map wD) = true
  | [] => by simp [PyData.canLayAll0]
  | w :: r => by simp [PyData.canLayAll0, PyData.canLay0, wD, lay_w w, lay_ws r]
theorem eqv_rel (a b : List (List Nat)) : PyData.eqv (relD a) (relD b) = decide (a = b) := by
  simp only [relD, PyData.eqv]
  exact eqvAll_dec wD_eqv a b
theorem shp_rel {n : Nat} {r : List (List Nat)} (h : IsR n r) (hn : n ≤ 8) : SeqAt.shaped (relD r) = true := by
  have h2 := (relD_bd h hn).dp
  have e : PyData.depth (relD r) ≤ 64 := by omega
  show (PyData.canLay0 (relD r) && decide (PyData.depth (relD r) ≤ 64)) = true
  have h1 : PyData.canLay0 (relD r) = true := by simp [relD, PyData.canLay0, lay_ws r]
  simp [h1, e]
end LA

set_option maxHeartbeats 1000000
namespace LA
open PySem L2
abbrev Rel := List (List Nat)
def rK (r : Rel) : NestedKey := .tup (r.map wK)
theorem rK_inj {a b : Rel} (h : rK a = rK b) : a = b := by
  unfold rK at h
  injection h with h
  exact (List.map_inj_right (fun x y z => wK_inj z)).mp h
theorem depthAll_words : ∀ r : Rel, NestedKey.depthAll (r.map wK) ≤ 1
  | [] => by simp [NestedKey.depthAll]
  | S :: r => by
    have h1 := depthAll_words r
    have h2 := depth_ints S
    simp only [List.map_cons, NestedKey.depthAll, wK, NestedKey.depth, h2]
    omega
theorem rK_depth (r : Rel) : (rK r).depth ≤ 8 := by
  have := depthAll_words r
  simp only [rK, NestedKey.depth]
  omega
theorem words_nk {K : PySem.W.Frag} {H : Hp} : ∀ {vs : List V} {r : Rel}, Paired (WordAt K H) vs r → NkAll K H vs (r.map wK)
  | _, _, .nil => .nil
  | _, _, .cons h t => by
    obtain ⟨a, rfl, q⟩ := id h
    exact .cons (w_key h) (words_nk t)
theorem RAt.key {K : PySem.W.Frag} {H : Hp} {a : Addr} {r : Rel} (h : RAt K H (.ref a) r) : NkV K H (.ref a) (rK r) := by
  obtain ⟨b, vs, e, q, p⟩ := h
  cases e
  exact .tup q (words_nk p)
theorem RAt.ref {K : PySem.W.Frag} {H : Hp} {v : V} {r : Rel} (h : RAt K H v r) : ∃ a, v = .ref a := let ⟨a, _, e, _, _⟩ := h; ⟨a, e⟩
structure RlD (L : List DnE) (rs : List Rel) : Prop where
  len : L.length = rs.length
  at_ : ∀ (i : Nat) (r : Rel), rs[i]? = some r → ∃ b, L[i]? = some (rK r, b, nV (i + 1))
theorem RlD.none {L : List DnE} {rs : List Rel} (h : RlD L rs) {r : Rel} (hr : r ∉ rs) : atN L (rK r) = none := by
  unfold atN
  rw [List.find?_eq_none.mpr]
  · rfl
  · intro l hl
    obtain ⟨i, hi, e⟩ := List.getElem_of_mem hl
    have hi' : i < rs.length := by rw [← h.len]; exact hi
    obtain ⟨b, hb⟩ := h.at_ i rs[i] (List.getElem?_eq_getElem hi')
    rw [List.getElem?_eq_getElem hi, e] at hb
    injection hb with hb
    rw [hb]
    simp only [decide_eq_true_eq]
    intro z
    exact hr (by rw [← rK_inj z]; exact List.getElem_mem hi')
theorem RlD.some {L : List DnE} {rs : List Rel} (h : RlD L rs) (nd : rs.Nodup) {i : Nat} {r : Rel} (hr : rs[i]? = some r) : ∃ b, atN L (rK r) = some (b, nV (i + 1)) := by
  obtain ⟨b, hb⟩ := h.at_ i r hr
  refine ⟨b, ?_⟩
  obtain ⟨hi, e⟩ := List.getElem?_eq_some_iff.mp hb
  obtain ⟨hi', e'⟩ := List.getElem?_eq_some_iff.mp hr
  unfold atN
  have : L.find? (fun l => decide (l.1 = rK r)) = Option.some L[i] := by
    rw [List.find?_eq_some_iff_getElem]
    refine ⟨by rw [e]; simp, i, hi, rfl, fun k hk => ?_⟩
    have hk' : k < rs.length := by omega
    obtain ⟨c, hc⟩ := h.at_ k rs[k] (List.getElem?_eq_getElem hk')
    rw [List.getElem?_eq_getElem (by omega)] at hc
    injection hc with hc
    rw [hc]
    have : ¬ rK rs[k] = rK r := fun z => by
      have z' := rK_inj z
      rw [← e'] at z'
      exact absurd z' (List.pairwise_iff_getElem.mp (List.nodup_iff_pairwise_ne.mp nd) k i hk' hi' hk)
    simp [this]
  rw [this, e]; rfl
theorem RlD.put {L : List DnE} {rs : List Rel} (h : RlD L rs) {r : Rel} (hr : r ∉ rs) (b : Addr) : storeN L (rK r) b (nV (rs.length + 1)) = L ++ [(rK r, b, nV (rs.length + 1))] ∧ RlD (L ++ [(rK r, b, nV (rs.length + 1))]) (rs ++ [r]) := by
  refine ⟨?_, ?_, fun i r' hi => ?_⟩
  · unfold storeN
    rw [h.none hr]
    simp
  · simp [h.len]
  · rcases Nat.lt_or_ge i rs.length with c | c
    · rw [List.getElem?_append_left c] at hi
      obtain ⟨b', hb⟩ := h.at_ i r' hi
      exact ⟨b', by rw [List.getElem?_append_left (by rw [h.len]; exact c)]; exact hb⟩
    · rw [List.getElem?_append_right c] at hi
      have hi0 : i - rs.length = 0 := by
        have := (List.getElem?_eq_some_iff.mp hi).1
        simp at this; omega
      rw [hi0] at hi
      simp at hi
      subst hi
      have : i = rs.length := by omega
      subst this
      exact ⟨b, by rw [List.getElem?_append_right (by rw [h.len]; exact Nat.le_refl _), h.len]; simp⟩
def OgAt (K : PySem.W.Frag) (H : Hp) (v : V) (o : Nat × Nat) : Prop := ∃ a, v = .ref a ∧ SqT K H a [nV o.1, nV o.2]
theorem OgAt.t {K : PySem.W.Frag} {H H' : Hp} {v : V} {o : Nat × Nat} (h : OgAt K H v o) (s : SameT H H') : OgAt K H' v o := let ⟨a, e, q⟩ := h; ⟨a, e, s.seq q⟩
structure GrP (K : PySem.W.Frag) (P : Program) (w : World) (H : Hp) (C x dx rl sl ol pd : Addr) (rs : List Rel) (og : List (Nat × Nat)) : Prop where
  ins : H x = some (.ins C dx [("relations", .ref rl), ("steps", .ref sl), ("origins", .ref ol), ("places", .ref pd)])
  own : H dx = some (.own x)
  rels : ∃ rvs, H rl = some (.lst rvs) ∧ Paired (RAt K H) rvs rs
  org : ∃ ovs, H ol = some (.lst (V.non :: ovs)) ∧ Paired (OgAt K H) ovs og
  plc : ∃ L ep, H pd = some (DictN P w pd L ep) ∧ KeysN K H L ∧ RlD L rs.tail
  ne : rl ≠ ol
section
variable {K : PySem.W.Frag} {P : Program} {w : World} {H H' : Hp} {C x dx rl sl ol pd : Addr} {rs : List Rel} {og : List (Nat × Nat)}
theorem GrP.fr (h : GrP K P w H C x dx rl sl ol pd rs og) (t : SameT H H') (e1 : H' x = H x) (e2 : H' dx = H dx) (e3 : H' rl = H rl) (e4 : H' ol = H ol) (e5 : H' pd = H pd) : GrP K P w H' C x dx rl sl ol pd rs og := by
  obtain ⟨rvs, a1, a2⟩ := h.rels
  obtain ⟨ovs, b1, b2⟩ := h.org
  obtain ⟨L, ep, c1, c2, c3⟩ := h.plc
  exact ⟨e1.trans h.ins, e2.trans h.own, ⟨rvs, e3.trans a1, paired_map a2 fun _ _ z => z.t t⟩, ⟨ovs, e4.trans b1, paired_map b2 fun _ _ z => z.t t⟩, ⟨L, ep, e5.trans c1, c2.t t, c3⟩, h.ne⟩
theorem GrP.s (h : GrP K P w H C x dx rl sl ol pd rs og) (s : Same H H') : GrP K P w H' C x dx rl sl ol pd rs og := by
  obtain ⟨rvs, a1, a2⟩ := h.rels
  obtain ⟨ovs, b1, b2⟩ := h.org
  obtain ⟨L, ep, c1, c2, c3⟩ := h.plc
  exact h.fr (Same.t s) ((s _ _ h.ins).trans h.ins.symm) ((s _ _ h.own).trans h.own.symm) ((s _ _ a1).trans a1.symm) ((s _ _ b1).trans b1.symm) ((s _ _ c1).trans c1.symm)
/-- another object changes that is no part of it -/
theorem GrP.px {b : Addr} (h : GrP K P w H C x dx rl sl ol pd rs og) (s : SameX b H H') (t : SameT H H') (n1 : x ≠ b) (n2 : dx ≠ b) (n3 : rl ≠ b) (n4 : ol ≠ b) (n5 : pd ≠ b) : GrP K P w H' C x dx rl sl ol pd rs og := by
  obtain ⟨rvs, a1, a2⟩ := h.rels
  obtain ⟨ovs, b1, b2⟩ := h.org
  obtain ⟨L, ep, c1, c2, c3⟩ := h.plc
  exact h.fr t ((s _ _ h.ins n1).trans h.ins.symm) ((s _ _ h.own n2).trans h.own.symm) ((s _ _ a1 n3).trans a1.symm) ((s _ _ b1 n4).trans b1.symm) ((s _ _ c1 n5).trans c1.symm)
end
end LA

set_option maxHeartbeats 1000000
namespace LA
open PySem L2
structure GB (K : PySem.W.Frag) (P : Program) (w : World) (H : Hp) (C x dx rl sl ol pd la D : Addr) (sas kds : List Addr) (lvs : List V) (j : Jd) (nx : Nat) (rs : List Rel) (og : List (Nat × Nat)) (st : List (List Nat)) (t : Nat) : Prop where
  gp : GrP K P w H C x dx rl sl ol pd rs og
  sl_ : H sl = some (.lst (sas.map V.ref))
  rows : Paired (fun (a : Addr) (row : List Nat) => H a = some (.lst (row.map nV))) sas st
  la_ : H la = some (.lst lvs)
  lp : Paired (RAt K H) lvs ((List.range nx).map (relL j))
  D_ : H D = some (.lst (kds.map V.ref))
  kl : kds.length = nx
  knd : kds.Nodup
  kn : ∀ (x : Nat) (kd : Addr), kds[x]? = some kd → Kn K P w H kd (relL j x) (8 * t)
  nd : (rl :: ol :: sl :: la :: D :: sas).Nodup
  pk : pd ∉ kds
theorem paired_imp1 {α β : Type} {R S : α → β → Prop} : ∀ {L : List α} {xs : List β}, Paired R L xs → (∀ a ∈ L, ∀ b, R a b → S a b) → Paired S L xs
  | _, _, .nil, _ => .nil
  | _, _, .cons r t, h => .cons (h _ List.mem_cons_self _ r) (paired_imp1 t fun a ha b => h a (List.mem_cons_of_mem _ ha) b)
section
variable {K : PySem.W.Frag} {P : Program} {w : World} {H H' : Hp} {C x dx rl sl ol pd la D : Addr} {sas kds : List Addr} {lvs : List V} {j : Jd} {nx : Nat} {rs : List Rel} {og : List (Nat × Nat)} {st : List (List Nat)} {t : Nat}
theorem GrP.kinds (g : GrP K P w H C x dx rl sl ol pd rs og) : (∀ b ys, H b = some (.lst ys) → x ≠ b ∧ dx ≠ b ∧ pd ≠ b) ∧ (∀ b φ, H b = some (.ext φ) → x ≠ b ∧ dx ≠ b ∧ rl ≠ b ∧ ol ≠ b) := by
  obtain ⟨rvs, a1, a2⟩ := g.rels
  obtain ⟨ovs, b1, b2⟩ := g.org
  obtain ⟨L, ep, c1, c2, c3⟩ := g.plc
  refine ⟨fun b ys h => ⟨fun z => ?_, fun z => ?_, fun z => ?_⟩, fun b φ h => ⟨fun z => ?_, fun z => ?_, fun z => ?_, fun z => ?_⟩⟩
  · have := g.ins; rw [z, h] at this; cases this
  · have := g.own; rw [z, h] at this; cases this
  · rw [z, h] at c1; unfold DictN at c1; cases c1
  · have := g.ins; rw [z, h] at this; cases this
  · have := g.own; rw [z, h] at this; cases this
  · rw [z, h] at a1; cases a1
  · rw [z, h] at b1; cases b1
theorem GB.s (g : GB K P w H C x dx rl sl ol pd la D sas kds lvs j nx rs og st t) (s : Same H H') : GB K P w H' C x dx rl sl ol pd la D sas kds lvs j nx rs og st t :=
  ⟨g.gp.s s, s _ _ g.sl_, paired_imp1 g.rows fun _ _ _ h => s _ _ h, s _ _ g.la_, paired_map g.lp fun _ _ z => z.t (Same.t s), s _ _ g.D_, g.kl, g.knd, fun y kd h => (g.kn y kd h).same s, g.nd, g.pk⟩
/-- something composed -/
theorem GB.comp (g : GB K P w H C x dx rl sl ol pd la D sas kds lvs j nx rs og st t) {y : Nat} {kd : Addr} (hk : kds[y]? = some kd) (s : SameX kd H H') (k : Kn K P w H' kd (relL j y) (8 * t + 8)) : GB K P w H' C x dx rl sl ol pd la D sas kds lvs j nx rs og st (t + 1) ∧ SameT H H' := by
  have k0 := g.kn y kd hk
  have t0 := k0.st s
  obtain ⟨φ, hφ⟩ := k0.ext
  have kk := g.gp.kinds
  have n1 := kk.2 kd φ hφ
  have ml : ∀ b ys, H b = some (.lst ys) → b ≠ kd := fun b ys h e => by rw [e, hφ] at h; cases h
  refine ⟨⟨g.gp.px s t0 n1.1 n1.2.1 n1.2.2.1 n1.2.2.2 (fun e => g.pk (e ▸ List.mem_of_getElem? hk)), s _ _ g.sl_ (ml _ _ g.sl_), paired_imp1 g.rows fun _ _ _ h => s _ _ h (ml _ _ h), s _ _ g.la_ (ml _ _ g.la_), paired_map g.lp fun _ _ z => z.t t0, s _ _ g.D_ (ml _ _ g.D_), g.kl, g.knd, fun z kz h => ?_, g.nd, g.pk⟩, t0⟩
  by_cases e : kz = kd
  · subst e
    have : z = y := by
      obtain ⟨i1, e1⟩ := List.getElem?_eq_some_iff.mp h
      obtain ⟨i2, e2⟩ := List.getElem?_eq_some_iff.mp hk
      exact (List.getElem_inj g.knd).mp (e1.trans e2.symm)
    subst this
    exact k.mono (by omega)
  · exact ((g.kn z kz h).x s ⟨φ, hφ⟩ e).mono (by omega)
/-- a new place -/
theorem GB.new {rs' : List Rel} {og' : List (Nat × Nat)} (g : GB K P w H C x dx rl sl ol pd la D sas kds lvs j nx rs og st t) (s : SameW (fun b => b = rl ∨ b = ol ∨ b = pd) H H') (g' : GrP K P w H' C x dx rl sl ol pd rs' og') : GB K P w H' C x dx rl sl ol pd la D sas kds lvs j nx rs' og' st t ∧ SameT H H' := by
  obtain ⟨rvs, a1, a2⟩ := g.gp.rels
  obtain ⟨ovs, b1, b2⟩ := g.gp.org
  obtain ⟨L, ep, c1, c2, c3⟩ := g.gp.plc
  have t0 : SameT H H' := fun b xs => by
    refine ⟨fun e => s _ _ e ?_, fun o e => s _ _ e ?_⟩
    · rintro (rfl | rfl | rfl)
      · rw [a1] at e; cases e
      · rw [b1] at e; cases e
      · rw [c1] at e; unfold DictN at e; cases e
    · rintro (rfl | rfl | rfl)
      · rw [a1] at e; cases e
      · rw [b1] at e; cases e
      · rw [c1] at e; unfold DictN at e; cases e
  have nd := g.nd
  simp only [List.nodup_cons, List.mem_cons, not_or] at nd
  obtain ⟨⟨h1, h2, h3, h4, h5⟩, ⟨h6, h7, h8, h9⟩, ⟨h10, h11, h12⟩, ⟨h13, h14⟩, h15, h16⟩ := nd
  have kk := g.gp.kinds
  have ml : ∀ b ys, H b = some (.lst ys) → b ≠ rl → b ≠ ol → H' b = some (.lst ys) := fun b ys h e1 e2 => s _ _ h (by
    rintro (e | e | e)
    · exact e1 e
    · exact e2 e
    · exact (kk.1 b ys h).2.2 e.symm)
  refine ⟨⟨g', ml _ _ g.sl_ (Ne.symm h2) (Ne.symm h6), paired_imp1 g.rows fun a ha _ h => ml _ _ h (fun e => h5 (e ▸ ha)) (fun e => h9 (e ▸ ha)), ml _ _ g.la_ (Ne.symm h3) (Ne.symm h7), paired_map g.lp fun _ _ z => z.t t0, ml _ _ g.D_ (Ne.symm h4) (Ne.symm h8), g.kl, g.knd, fun y kd h => ?_, g.nd, g.pk⟩, t0⟩
  obtain ⟨L', ep', k1, k2⟩ := g.kn y kd h
  refine ⟨L', ep', k1.t t0 ((s _ _ k1.at_ ?_).trans k1.at_.symm), k2⟩
  rintro (e | e | e)
  · have := k1.at_; rw [e, a1] at this; unfold DictN at this; cases this
  · have := k1.at_; rw [e, b1] at this; unfold DictN at this; cases this
  · exact g.pk (e ▸ List.mem_of_getElem? h)
/-- another list changes -/
theorem GB.lst {b : Addr} {ys zs : List V} (g : GB K P w H C x dx rl sl ol pd la D sas kds lvs j nx rs og st t) (hb : H b = some (.lst ys)) (nb : b ∉ (rl :: ol :: sl :: la :: D :: sas)) : GB K P w (upd H b (.lst zs)) C x dx rl sl ol pd la D sas kds lvs j nx rs og st t := by
  have t0 : SameT H (upd H b (.lst zs)) := SameT.lst hb
  simp only [List.mem_cons, not_or] at nb
  obtain ⟨n1, n2, n3, n4, n5, n6⟩ := nb
  have kk := g.gp.kinds.1 b ys hb
  have s : SameX b H (upd H b (.lst zs)) := fun c o e ne => by rw [upd_ne ne]; exact e
  refine ⟨g.gp.px s t0 kk.1 kk.2.1 (Ne.symm n1) (Ne.symm n2) kk.2.2, by rw [upd_ne (Ne.symm n3)]; exact g.sl_, paired_imp1 g.rows fun a ha _ h => by rw [upd_ne (show a ≠ b from fun e => n6 (e ▸ ha))]; exact h, by rw [upd_ne (Ne.symm n4)]; exact g.la_, paired_map g.lp fun _ _ z => z.t t0, by rw [upd_ne (Ne.symm n5)]; exact g.D_, g.kl, g.knd, fun y kd h => ?_, g.nd, g.pk⟩
  obtain ⟨L', ep', k1, k2⟩ := g.kn y kd h
  refine ⟨L', ep', k1.t t0 (upd_ne fun e => ?_), k2⟩
  have := k1.at_; rw [e, hb] at this; unfold DictN at this; cases this
/-- a row more -/
theorem GB.step {b : Addr} {row : List Nat} (g : GB K P w H C x dx rl sl ol pd la D sas kds lvs j nx rs og st t) (hb : H b = some (.lst (row.map nV))) (nb : b ∉ (rl :: ol :: sl :: la :: D :: sas)) : GB K P w (upd H sl (.lst ((sas ++ [b]).map V.ref))) C x dx rl sl ol pd la D (sas ++ [b]) kds lvs j nx rs og (st ++ [row]) t := by
  have t0 : SameT H (upd H sl (.lst ((sas ++ [b]).map V.ref))) := SameT.lst g.sl_
  have nd := g.nd
  simp only [List.nodup_cons, List.mem_cons, not_or] at nd
  obtain ⟨⟨h1, h2, h3, h4, h5⟩, ⟨h6, h7, h8, h9⟩, ⟨h10, h11, h12⟩, ⟨h13, h14⟩, h15, h16⟩ := nd
  have nb' := nb
  simp only [List.mem_cons, not_or] at nb
  obtain ⟨n1, n2, n3, n4, n5, n6⟩ := nb
  have kk := g.gp.kinds.1 sl _ g.sl_
  have s : SameX sl H (upd H sl (.lst ((sas ++ [b]).map V.ref))) := fun c o e ne => by rw [upd_ne ne]; exact e
  refine ⟨g.gp.px s t0 kk.1 kk.2.1 h2 h6 kk.2.2, upd_same, paired_snoc (paired_imp1 g.rows fun a ha _ h => by rw [upd_ne (show a ≠ sl from fun e => h12 (e ▸ ha))]; exact h) (by rw [upd_ne n3]; exact hb), by rw [upd_ne (Ne.symm h10)]; exact g.la_, paired_map g.lp fun _ _ z => z.t t0, by rw [upd_ne (Ne.symm h11)]; exact g.D_, g.kl, g.knd, fun y kd h => ?_, ?_, g.pk⟩
  · obtain ⟨L', ep', k1, k2⟩ := g.kn y kd h
    refine ⟨L', ep', k1.t t0 (upd_ne fun e => ?_), k2⟩
    have := k1.at_; rw [e, g.sl_] at this; unfold DictN at this; cases this
  · have e : rl :: ol :: sl :: la :: D :: (sas ++ [b]) = (rl :: ol :: sl :: la :: D :: sas) ++ [b] := rfl
    rw [e, List.nodup_append]
    exact ⟨g.nd, by simp, fun a ha c hc => by rw [List.mem_singleton.mp hc]; exact fun e => nb' (e ▸ ha)⟩
end
def RwgOk (j : Jd) (nx : Nat) (ws : List (List Nat)) (u : List Nat) (row : List Nat) : Prop := ∀ (x q : Nat), row[x]? = some q → ∃ w, ws[q]? = some w ∧ w ≠ [] ∧ relW j w = relW j (u ++ [x])
def StgOk (j : Jd) (nx : Nat) (ws : List (List Nat)) (st : List (List Nat)) : Prop := ∀ (i : Nat) (u row : List Nat), ws[i]? = some u → st[i]? = some row → row.length = nx ∧ RwgOk j nx ws u row
def OggOk (nx : Nat) (ws : List (List Nat)) (og : List (Nat × Nat)) : Prop := og.length + 1 = ws.length ∧ ∀ (i h x : Nat), og[i]? = some (h, x) → ∃ u, ws[h]? = some u ∧ ws[i + 1]? = some (u ++ [x]) ∧ h ≤ i ∧ x < nx
theorem get_app {α : Type} {l r : List α} {i : Nat} {a : α} (h : l[i]? = some a) : (l ++ r)[i]? = some a := by
  rw [List.getElem?_append_left (List.getElem?_eq_some_iff.mp h).1]; exact h
theorem RwgOk.more {j : Jd} {nx : Nat} {ws : List (List Nat)} {u row : List Nat} (h : RwgOk j nx ws u row) (r : List (List Nat)) : RwgOk j nx (ws ++ r) u row := fun x q e => let ⟨w, a, b⟩ := h x q e; ⟨w, get_app a, b⟩
theorem StgOk.more {j : Jd} {nx : Nat} {ws st : List (List Nat)} (h : StgOk j nx ws st) (hl : st.length ≤ ws.length) (r : List (List Nat)) : StgOk j nx (ws ++ r) st := fun i u row e1 e2 => by
  have hi := (List.getElem?_eq_some_iff.mp e2).1
  rw [List.getElem?_append_left (by omega)] at e1
  obtain ⟨a, b⟩ := h i u row e1 e2
  exact ⟨a, b.more r⟩
theorem StgOk.row {j : Jd} {nx : Nat} {ws st : List (List Nat)} (h : StgOk j nx ws st) {u row : List Nat} (hu : ws[st.length]? = some u) (hr : row.length = nx) (ho : RwgOk j nx ws u row) : StgOk j nx ws (st ++ [row]) := fun i v r e1 e2 => by
  rcases Nat.lt_or_ge i st.length with c | c
  · rw [List.getElem?_append_left c] at e2
    exact h i v r e1 e2
  · rw [List.getElem?_append_right c] at e2
    have hi0 : i - st.length = 0 := by
      have := (List.getElem?_eq_some_iff.mp e2).1
      simp at this; omega
    rw [hi0] at e2
    have e2' : r = row := by simpa using e2.symm
    have : i = st.length := by omega
    subst this
    rw [hu] at e1
    cases e1
    subst e2'
    exact ⟨hr, ho⟩
theorem OggOk.more {nx : Nat} {ws : List (List Nat)} {og : List (Nat × Nat)} (h : OggOk nx ws og) {i x : Nat} {u : List Nat} (hu : ws[i]? = some u) (hx : x < nx) : OggOk nx (ws ++ [u ++ [x]]) (og ++ [(i, x)]) := by
  refine ⟨by have := h.1; simp; omega, fun k a b e => ?_⟩
  have hi := (List.getElem?_eq_some_iff.mp hu).1
  rcases Nat.lt_or_ge k og.length with c | c
  · rw [List.getElem?_append_left c] at e
    obtain ⟨v, e1, e2, e3, e4⟩ := h.2 k a b e
    exact ⟨v, get_app e1, get_app e2, e3, e4⟩
  · rw [List.getElem?_append_right c] at e
    have hi0 : k - og.length = 0 := by
      have := (List.getElem?_eq_some_iff.mp e).1
      simp at this; omega
    rw [hi0] at e
    simp at e
    obtain ⟨rfl, rfl⟩ := e
    have hk : k + 1 = ws.length := by have := h.1; omega
    exact ⟨u, get_app hu, by rw [hk, List.getElem?_append_right (Nat.le_refl _)]; simp, by omega, hx⟩
structure GrM (j : Jd) (nx : Nat) (ws st : List (List Nat)) (og : List (Nat × Nat)) : Prop where
  e : GrE j nx ws
  few : ws.length ≤ 2001
  sl : st.length = ws.length
  st : StgOk j nx ws st
  og : OggOk nx ws og
structure GrAt (K : PySem.W.Frag) (P : Program) (w : World) (H : Hp) (C x dx rl sl ol pd : Addr) (sas : List Addr) (j : Jd) (ws st : List (List Nat)) (og : List (Nat × Nat)) : Prop where
  gp : GrP K P w H C x dx rl sl ol pd (ws.map (relW j)) og
  sl_ : H sl = some (.lst (sas.map V.ref))
  rows : Paired (fun (a : Addr) (row : List Nat) => H a = some (.lst (row.map nV))) sas st
theorem GrAt.s {K : PySem.W.Frag} {P : Program} {w : World} {H H' : Hp} {C x dx rl sl ol pd : Addr} {sas : List Addr} {j : Jd} {ws st : List (List Nat)} {og : List (Nat × Nat)} (g : GrAt K P w H C x dx rl sl ol pd sas j ws st og) (s : Same H H') : GrAt K P w H' C x dx rl sl ol pd sas j ws st og :=
  ⟨g.gp.s s, s _ _ g.sl_, paired_imp1 g.rows fun _ _ _ h => s _ _ h⟩
section
variable {j : Jd} {nx : Nat} {ws : List (List Nat)} {B : Nat}
theorem GrI.tl (g : GrI j nx ws B) {i : Nat} {w : List Nat} (h : ws.tail[i]? = some w) : w ≠ [] ∧ w ∈ ws ∧ ws[i + 1]? = some w := by
  obtain ⟨t, rfl⟩ := g.first
  rw [List.tail_cons] at h
  have hm := List.mem_of_getElem? h
  refine ⟨fun e => ?_, List.mem_cons_of_mem _ hm, by simpa using h⟩
  have := (List.pairwise_cons.mp g.inc).1 w hm
  rw [e] at this; omega
theorem GrI.nodup (g : GrI j nx ws B) : ((ws.map (relW j)).tail).Nodup ∧ ∀ r ∈ (ws.map (relW j)).tail, IsRl j nx r := by
  rw [← List.map_tail]
  exact tail_nodup g.first g.inc fun w hw hn => ((g.mem w hn).mp hw).1
theorem GrI.many (g : GrI j nx ws B) {w : List Nat} (hw : w ≠ []) (ho : OvW nx w) (h : relW j w ∉ (ws.map (relW j)).tail) (hl : ws.length = 2001) : ManyR j nx := by
  obtain ⟨nd, hr⟩ := g.nodup
  refine ⟨(ws.map (relW j)).tail ++ [relW j w], ?_, fun r hm => ?_, by simp; omega⟩
  · rw [List.nodup_append]
    exact ⟨nd, by simp, fun a ha b hb => by rw [List.mem_singleton.mp hb]; exact fun e => h (e ▸ ha)⟩
  · rcases List.mem_append.mp hm with z | z
    · exact hr r z
    · rw [List.mem_singleton.mp z]; exact ⟨w, hw, ho, rfl⟩
end
theorem RwgOk.snoc {j : Jd} {nx : Nat} {ws : List (List Nat)} {u row : List Nat} (h : RwgOk j nx ws u row) {q : Nat} {w : List Nat} (h1 : ws[q]? = some w) (h2 : w ≠ []) (h3 : relW j w = relW j (u ++ [row.length])) : RwgOk j nx ws u (row ++ [q]) := fun x p e => by
  rcases Nat.lt_or_ge x row.length with c | c
  · rw [List.getElem?_append_left c] at e
    exact h x p e
  · rw [List.getElem?_append_right c] at e
    have hi0 : x - row.length = 0 := by
      have := (List.getElem?_eq_some_iff.mp e).1
      simp at this; omega
    rw [hi0] at e
    have e' : p = q := by simpa using e.symm
    have : x = row.length := by omega
    subst this; subst e'
    exact ⟨w, h1, h2, h3⟩
theorem fresh_bk {H H' : Hp} (S : Same H H') {b : Addr} (h : H' b = none) : H b = none := by
  cases e : H b with
  | none => rfl
  | some o => rw [S _ _ e] at h; cases h
end LA

set_option maxHeartbeats 1000000
namespace LA
open PySem PySem.Spec PyProof.Rows L2
theorem nkDs_map (ks : List NestedKey) : nkDs ks = ks.map nkD := by
  induction ks with
  | nil => simp [nkDs]
  | cons k ks ih => simp [nkDs, ih]
theorem nkD_w (S : List Nat) : nkD (wK S) = wD S := by
  unfold wK wD
  simp only [nkD, nkDs_map, List.map_map]
  congr 1
theorem wtoks_inj : ∀ (S S' : List Nat) (l l' : List (Int ⊕ List Nat)), W.keyToksAll (S.map nD) ++ l = W.keyToksAll (S'.map nD) ++ l' → S = S' ∧ l = l'
  | [], [], l, l', h => by simpa [W.keyToksAll] using h
  | [], y :: S', l, l', h => by simp [W.keyToksAll] at h
  | x :: S, [], l, l', h => by simp [W.keyToksAll] at h
  | x :: S, y :: S', l, l', h => by
    simp only [List.map_cons, W.keyToksAll, nD, W.keyToks, List.cons_append, List.nil_append, List.cons.injEq, true_and, Sum.inl.injEq] at h
    obtain ⟨h1, h2⟩ := h
    obtain ⟨e1, e2⟩ := wtoks_inj S S' l l' h2
    have : x = y := by omega
    exact ⟨by rw [this, e1], e2⟩
theorem rtoks_inj : ∀ (r r' : Rel) (l l' : List (Int ⊕ List Nat)), W.keyToksAll (r.map wD) ++ l = W.keyToksAll (r'.map wD) ++ l' → r = r' ∧ l = l'
  | [], [], l, l', h => by simpa [W.keyToksAll] using h
  | [], y :: S', l, l', h => by simp [W.keyToksAll] at h
  | x :: S, [], l, l', h => by simp [W.keyToksAll] at h
  | x :: S, y :: S', l, l', h => by
    simp only [List.map_cons, W.keyToksAll, wD, W.keyToks, List.cons_append, List.append_assoc, List.cons.injEq, true_and] at h
    obtain ⟨h1, h2⟩ := wtoks_inj x y _ _ h
    obtain ⟨e1, e2⟩ := rtoks_inj S S' l l' h2
    exact ⟨by rw [h1, e1], e2⟩
theorem relD_toks {a b : Rel} (h : W.keyToks (relD a) = W.keyToks (relD b)) : a = b := by
  have h' : W.keyToksAll (a.map wD) ++ [] = W.keyToksAll (b.map wD) ++ [] := by
    simp only [relD, W.keyToks] at h
    rw [h]
  exact (rtoks_inj a b [] [] h').1
abbrev leR : Rel → Rel → Bool := W.dataLe false relD
theorem leR_total : W.TotalLe leR := W.sortLe_total _ _ _
theorem leR_anti {a b : Rel} (h1 : leR a b = true) (h2 : leR b a = true) : a = b := by
  have h1' : (!PyProof.Rows.lexLt itemOrd (W.keyToks (relD b)) (W.keyToks (relD a))) = true := h1
  have h2' : (!PyProof.Rows.lexLt itemOrd (W.keyToks (relD a)) (W.keyToks (relD b))) = true := h2
  rw [Bool.not_eq_true'] at h1' h2'
  exact relD_toks ((listOrd itemOrd).total _ _ h2' h1')
noncomputable def sortR (rs : List Rel) : List Rel := rs.mergeSort leR
theorem sortR_perm (rs : List Rel) : (sortR rs).Perm rs := List.mergeSort_perm rs leR
theorem strict_eq {α : Type} {R : α → α → Prop} (irr : ∀ a, ¬ R a a) (tr : ∀ a b c, R a b → R b c → R a c) : ∀ {l m : List α}, l.Pairwise R → m.Pairwise R → (∀ x, x ∈ l ↔ x ∈ m) → l = m
  | [], [], _, _, _ => rfl
  | [], b :: m, _, _, h => absurd ((h b).mpr List.mem_cons_self) (by simp)
  | a :: l, [], _, _, h => absurd ((h a).mp List.mem_cons_self) (by simp)
  | a :: l, b :: m, h1, h2, h => by
    obtain ⟨p1, p2⟩ := List.pairwise_cons.mp h1
    obtain ⟨q1, q2⟩ := List.pairwise_cons.mp h2
    have e : a = b := by
      rcases List.mem_cons.mp ((h a).mp List.mem_cons_self) with z | z
      · exact z
      · rcases List.mem_cons.mp ((h b).mpr List.mem_cons_self) with y | y
        · exact y.symm
        · exact absurd (tr _ _ _ (p1 b y) (q1 a z)) (irr a)
    subst e
    refine congrArg (a :: ·) (strict_eq irr tr p2 q2 fun x => ⟨fun hx => ?_, fun hx => ?_⟩)
    · rcases List.mem_cons.mp ((h x).mp (List.mem_cons_of_mem _ hx)) with z | z
      · exact absurd (p1 x hx) (by rw [z]; exact irr a)
      · exact z
    · rcases List.mem_cons.mp ((h x).mpr (List.mem_cons_of_mem _ hx)) with z | z
      · exact absurd (q1 x hx) (by rw [z]; exact irr a)
      · exact z
def ltR (a b : Rel) : Prop := leR a b = true ∧ a ≠ b
theorem ltR_irr (a : Rel) : ¬ ltR a a := fun h => h.2 rfl
theorem ltR_trans (a b c : Rel) (h1 : ltR a b) (h2 : ltR b c) : ltR a c := ⟨leR_total.trans _ _ _ h1.1 h2.1, fun e => by subst e; exact h1.2 (leR_anti h1.1 h2.1)⟩
theorem sortR_strict {rs : List Rel} (h : rs.Nodup) : (sortR rs).Pairwise ltR := by
  have h1 := W.sort_pairwise leR_total rs
  have h2 : (sortR rs).Nodup := (sortR_perm rs).nodup_iff.mpr h
  exact List.Pairwise.imp₂ (fun a b x y => ⟨x, y⟩) h1 (List.nodup_iff_pairwise_ne.mp h2)
theorem sortR_mem {rs : List Rel} {r : Rel} : r ∈ sortR rs ↔ r ∈ rs := (sortR_perm rs).mem_iff
theorem sortR_eq {rs rs' : List Rel} (h : rs.Nodup) (h' : rs'.Nodup) (hm : ∀ r, r ∈ rs ↔ r ∈ rs') : sortR rs = sortR rs' :=
  strict_eq ltR_irr ltR_trans (sortR_strict h) (sortR_strict h') fun x => by rw [sortR_mem, sortR_mem]; exact hm x
theorem key_w {K : PySem.W.Frag} {H : Hp} {v : V} {S : List Nat} (h : NkV K H v (wK S)) : WordAt K H v S := by
  unfold wK at h
  cases h with
  | @tup b xs _ hB hC => rw [ints_nk hC] at hB; exact ⟨b, rfl, hB⟩
theorem alike_w : ∀ S S' : List Nat, W.alikeAll (S.map nD) (S'.map nD) = true
  | [], _ => by simp [W.alikeAll]
  | _ :: _, [] => by simp [W.alikeAll]
  | x :: S, y :: S' => by simp [W.alikeAll, W.alike, nD, alike_w S S']
theorem depthN (S : List Nat) : PyData.depthAll (S.map nD) = 0 := by
  induction S with
  | nil => simp [PyData.depthAll]
  | cons x S ih => simp [PyData.depthAll, PyData.depth, nD, ih]
/-- a tuple of relations -/
def RsAt (K : PySem.W.Frag) (H : Hp) (v : V) (rs : List Rel) : Prop := ∃ a vs, v = .ref a ∧ SqT K H a vs ∧ Paired (RAt K H) vs rs
theorem RsAt.t {K : PySem.W.Frag} {H H' : Hp} {v : V} {rs : List Rel} (h : RsAt K H v rs) (s : SameT H H') : RsAt K H' v rs := let ⟨a, vs, e, q, p⟩ := h; ⟨a, vs, e, s.seq q, paired_map p fun _ _ x => x.t s⟩
/-- all relations, each once -/
structure AllR (j : Jd) (nx : Nat) (rs : List Rel) : Prop where
  nd : rs.Nodup
  mem : ∀ r, r ∈ rs ↔ IsRl j nx r
theorem AllR.sort {j : Jd} {nx : Nat} {rs rs' : List Rel} (h : AllR j nx rs) (h' : AllR j nx rs') : sortR rs = sortR rs' := sortR_eq h.nd h'.nd fun r => by rw [h.mem, h'.mem]
end LA

set_option maxHeartbeats 1000000
namespace LA
open PySem PySem.Spec PyProof.Rows L2
section
variable {pr : Program} {wo : World} {Ar : Around} {Er : Value → Shared → Prop} {st : Shared}
end
section
variable {X : Cx}
end
end LA

set_option maxHeartbeats 1000000
namespace LA
open PySem L2
theorem GrM.all {j : Jd} {nx : Nat} {ws st : List (List Nat)} {og : List (Nat × Nat)} (g : GrM j nx ws st og) : AllR j nx (ws.map (relW j)).tail ∧ (ws.map (relW j)).tail.length ≤ 2000 := by
  have e : (ws.map (relW j)).tail = ws.tail.map (relW j) := List.map_tail.symm
  refine ⟨⟨by rw [e]; exact g.e.nodup, fun r => by rw [e]; exact g.e.rels r⟩, ?_⟩
  have := g.few
  rw [e, List.length_map, List.length_tail]; omega
theorem AllR.few {j : Jd} {nx : Nat} {rs : List Rel} (h : AllR j nx rs) (hl : rs.length ≤ 2000) : ¬ ManyR j nx := by
  rintro ⟨l, nd, hm, hn⟩
  have := nodup_lenD l rs nd fun r hr => (h.mem r).mpr (hm r hr)
  omega
theorem IsRl.ok {j : Jd} {nx : Nat} {r : Rel} (h : IsRl j nx r) : IsR j.length r := by
  obtain ⟨w, _, _, rfl⟩ := h
  exact relW_ok j w
theorem IsRl.ne {j : Jd} {nx ny : Nat} {r : Rel} (ij : IsJ j nx ny) (h : IsRl j nx r) : r ≠ [] := fun e => by
  have := h.ok.len
  rw [e] at this
  have := ij.n1
  simp at *
  omega
theorem IsRl.step {j : Jd} {nx : Nat} {r : Rel} {x : Nat} (h : IsRl j nx r) (hx : x < nx) : IsRl j nx (compR r (relL j x)) := by
  obtain ⟨w, h1, h2, rfl⟩ := h
  exact ⟨w ++ [x], by simp, h2.snoc hx, comp_letter j w x⟩
theorem relL_word (j : Jd) (x : Nat) : relL j x = relW j [x] := by
  have := comp_letter j [] x
  rw [List.nil_append] at this
  rw [← this, comp_own (relL_ok j x)]
theorem IsRl.letter {j : Jd} {nx x : Nat} (hx : x < nx) : IsRl j nx (relL j x) := ⟨[x], by simp, fun y hy => by rw [List.mem_singleton.mp hy]; exact hx, relL_word j x⟩
structure FndR (j : Jd) (nx : Nat) (rs Wl : List Rel) : Prop where
  nd : rs.Nodup
  rl : ∀ r ∈ rs, IsRl j nx r
  wl : ∀ r ∈ Wl, IsRl j nx r
  lt : ∀ x, x < nx → relL j x ∈ rs ∨ relL j x ∈ Wl
  cl : ∀ r ∈ rs, ∀ x, x < nx → compR r (relL j x) ∈ rs ∨ compR r (relL j x) ∈ Wl
section
variable {j : Jd} {nx : Nat} {rs Wl : List Rel}
theorem FndR.start : FndR j nx [] ((List.range nx).map (relL j)) := ⟨List.nodup_nil, nofun, fun r hr => by
  obtain ⟨x, hx, rfl⟩ := List.mem_map.mp hr
  exact IsRl.letter (List.mem_range.mp hx), fun x hx => .inr (List.mem_map.mpr ⟨x, List.mem_range.mpr hx, rfl⟩), nofun⟩
theorem FndR.old {r : Rel} (h : FndR j nx rs (Wl ++ [r])) (hr : r ∈ rs) : FndR j nx rs Wl := by
  have key : ∀ q, q ∈ rs ∨ q ∈ Wl ++ [r] → q ∈ rs ∨ q ∈ Wl := fun q z => z.elim .inl fun z => (List.mem_append.mp z).elim .inr fun z => .inl (by rw [List.mem_singleton.mp z]; exact hr)
  exact ⟨h.nd, h.rl, fun q hq => h.wl q (List.mem_append_left _ hq), fun x hx => key _ (h.lt x hx), fun q hq x hx => key _ (h.cl q hq x hx)⟩
theorem FndR.new {r : Rel} (h : FndR j nx rs (Wl ++ [r])) (hr : r ∉ rs) : FndR j nx (rs ++ [r]) (Wl ++ (List.range nx).map fun x => compR r (relL j x)) := by
  have hrr := h.wl r (by simp)
  have key : ∀ q, q ∈ rs ∨ q ∈ Wl ++ [r] → q ∈ rs ++ [r] ∨ q ∈ Wl ++ (List.range nx).map fun x => compR r (relL j x) := fun q z => by
    rcases z with z | z
    · exact .inl (List.mem_append_left _ z)
    · rcases List.mem_append.mp z with z | z
      · exact .inr (List.mem_append_left _ z)
      · exact .inl (List.mem_append_right _ z)
  refine ⟨?_, fun q hq => ?_, fun q hq => ?_, fun x hx => key _ (h.lt x hx), fun q hq x hx => ?_⟩
  · rw [List.nodup_append]
    exact ⟨h.nd, by simp, fun a ha b hb => by rw [List.mem_singleton.mp hb]; exact fun e => hr (e ▸ ha)⟩
  · rcases List.mem_append.mp hq with z | z
    · exact h.rl q z
    · rw [List.mem_singleton.mp z]; exact hrr
  · rcases List.mem_append.mp hq with z | z
    · exact h.wl q (List.mem_append_left _ z)
    · obtain ⟨x, hx, rfl⟩ := List.mem_map.mp z
      exact hrr.step (List.mem_range.mp hx)
  · rcases List.mem_append.mp hq with z | z
    · exact key _ (h.cl q z x hx)
    · rw [List.mem_singleton.mp z]
      exact .inr (List.mem_append_right _ (List.mem_map.mpr ⟨x, List.mem_range.mpr hx, rfl⟩))
theorem FndR.all (h : FndR j nx rs []) : AllR j nx rs := by
  refine ⟨h.nd, fun r => ⟨h.rl r, ?_⟩⟩
  have key : ∀ (n : Nat) (w : List Nat), w.length ≤ n → w ≠ [] → OvW nx w → relW j w ∈ rs := by
    intro n
    induction n with
    | zero => intro w hl hw; exact absurd (List.length_eq_zero_iff.mp (by omega)) hw
    | succ n ih =>
      intro w hl hw ho
      obtain ⟨u, x, rfl⟩ := snoc_of hw
      have hx := ho.init.2
      rcases Classical.em (u = []) with e | e
      · subst e
        rw [List.nil_append, ← relL_word]
        exact (h.lt x hx).elim id fun z => by cases z
      · have := ih u (by simpa using hl) e ho.init.1
        rw [← comp_letter]
        exact (h.cl _ this x hx).elim id fun z => by cases z
  rintro ⟨w, h1, h2, rfl⟩
  exact key _ w (Nat.le_refl _) h1 h2
theorem FndR.many (h : FndR j nx rs Wl) (hl : rs.length = 2001) : ManyR j nx := ⟨rs, h.nd, h.rl, hl⟩
end
def GrV (K : PySem.W.Frag) (H : Hp) (j : Jd) (nx : Nat) (l : DnE) : Prop := ∃ (r : Rel) (va : Addr) (svs : List V), l.1 = rK r ∧ l.2.2 = .ref va ∧ H va = some (.lst svs) ∧ Paired (RAt K H) svs ((List.range nx).map fun x => compR r (relL j x))
theorem RsAt.dq {K : PySem.W.Frag} {H : Hp} {p : Addr} {Z : Addr → Prop} {v : V} {rs : List Rel} (h : RsAt K H v rs) : Dq K p Z H v (.tuple (rs.map relD)) := by
  obtain ⟨a, vs, rfl, q, t⟩ := h
  exact .tup q (paired_dq (fun v s hs => hs.dq) t)
theorem RsAt.dp {K : PySem.W.Frag} {H : Hp} {v : V} {rs : List Rel} (h : RsAt K H v rs) : Dp K H v (.tuple (rs.map relD)) := by
  obtain ⟨a, vs, rfl, q, t⟩ := h
  exact .tup q (paired_dp (fun v s hs => hs.dp) t)
end LA

set_option maxHeartbeats 1000000
namespace LA
open PySem L2
theorem at_keys {L : List DnE} : ∀ {rs : List Rel} {r : Rel}, L.map (·.1) = rs.map rK → (atN L (rK r)).isSome = decide (r ∈ rs) := by
  induction L with
  | nil =>
    intro rs r h
    cases rs with
    | nil => rfl
    | cons a rs => cases h
  | cons l L ih =>
    intro rs r h
    cases rs with
    | nil => cases h
    | cons a rs =>
      rw [List.map_cons, List.map_cons] at h
      injection h with h1 h2
      have := ih (r := r) h2
      unfold atN at this ⊢
      by_cases e : a = r
      · subst e
        simp [h1]
      · have ne : ¬ rK a = rK r := fun z => e (rK_inj z)
        rw [List.find?_cons_of_neg (by rw [h1]; simpa using ne), this]
        simp only [List.mem_cons]
        exact decide_eq_decide.mpr ⟨.inr, fun z => z.elim (fun z => absurd z.symm e) id⟩
theorem at_none {L : List DnE} {rs : List Rel} {r : Rel} (h : L.map (·.1) = rs.map rK) (hn : r ∉ rs) : atN L (rK r) = none := by
  have := at_keys (r := r) h
  rw [decide_eq_false hn] at this
  cases e : atN L (rK r) with
  | none => rfl
  | some x => rw [e] at this; cases this
theorem storeR_keys {L : List DnE} {rs : List Rel} {r : Rel} (h : L.map (·.1) = rs.map rK) (hn : r ∉ rs) (b : Addr) (v : V) : storeN L (rK r) b v = L ++ [(rK r, b, v)] ∧ (L ++ [(rK r, b, v)]).map (·.1) = (rs ++ [r]).map rK ∧ atN (L ++ [(rK r, b, v)]) (rK r) = some (b, v) := by
  have hat := at_none h hn
  refine ⟨?_, by rw [List.map_append, List.map_append, h]; rfl, ?_⟩
  · unfold storeN
    rw [hat]
    simp
  · unfold atN at hat ⊢
    rw [List.find?_append]
    cases e : L.find? (fun l => decide (l.1 = rK r)) with
    | none => simp
    | some x => rw [e] at hat; cases hat
theorem GrV.t {K : PySem.W.Frag} {H H' : Hp} {j : Jd} {nx : Nat} {l : DnE} (h : GrV K H j nx l) (t : SameT H H') (k : ∀ va svs, l.2.2 = V.ref va → H va = some (.lst svs) → H' va = some (.lst svs)) : GrV K H' j nx l := by
  obtain ⟨r, va, svs, e1, e2, e3, e4⟩ := h
  exact ⟨r, va, svs, e1, e2, k va svs e2 e3, paired_map e4 fun _ _ z => z.t t⟩
end LA

set_option maxHeartbeats 1000000
namespace LA
open PySem L2 LamX
theorem AllR.pos {j : Jd} {nx ny : Nat} {rs : List Rel} (ij : IsJ j nx ny) (h : AllR j nx rs) : 0 < rs.length := by
  have := (h.mem _).mpr (IsRl.letter (j := j) (nx := nx) (x := 0) ij.x1)
  exact List.length_pos_of_mem this
theorem ext_dict {P : Program} {w : World} {H H' : Hp} {d : Addr} {L : List DnE} {ep : Nat} (n : ExtN H H') (h : H d = some (DictN P w d L ep)) : H' d = some (DictN P w d L ep) := n _ _ h fun ps z => by unfold DictN at z; cases z
end LA

set_option maxHeartbeats 1000000
namespace LA
open PySem L2 LamX
end LA

set_option maxHeartbeats 1000000
namespace LA
open PySem L2 LamX
section
variable {X : Cx}
theorem eqDK (K : PySem.W.Frag) (hu : X.A.units + 64 < cLine) (h : X.K = K := by rfl) : OpR X (compareOp .Eq) (rEqD K) := by subst h; exact op_eqD hu
theorem neDK (K : PySem.W.Frag) (hu : X.A.units + 64 < cLine) (h : X.K = K := by rfl) : OpR X (compareOp .NotEq) (rNeD K) := by subst h; exact op_neD hu
end
section
variable {j : Jd} {nx : Nat} {r : Rel}
theorem rel_snoc {u w : List Nat} (h : relW j u = relW j w) (x : Nat) : relW j (u ++ [x]) = relW j (w ++ [x]) := by
  rw [← comp_letter, ← comp_letter, h]
end
end LA

set_option maxHeartbeats 1000000
namespace LA
open PySem L2 LamX
/-- the law's own graph, of at most m relations, or nothing -/
def GrOrM (K : PySem.W.Frag) (H : Hp) (j : Jd) (nx m : Nat) (L : List DnE) : Prop := (∃ rs : List Rel, AllR j nx rs ∧ rs.length ≤ m ∧ L.map (·.1) = rs.map rK ∧ (∀ l ∈ L, GrV K H j nx l)) ∨ L = []
end LA

set_option maxHeartbeats 1000000
namespace LA
open PySem PySem.Spec PyProof.Rows L2
section
variable {X : Cx}
end
section
variable {X : Cx}
end
end LA

set_option maxHeartbeats 4000000
namespace LA
open PySem PySem.Spec PyProof.Rows L2
section
variable {X : Cx} {pins : List (Addr × Obj)} {σ : L2.St} {H : Hp} {s : Shared}
end
end LA

set_option maxHeartbeats 1000000
namespace LA
open PySem L2 LamX
abbrev CtM := List (Rel × Nat)
def addC (r : Rel) (c : Nat) : CtM → CtM
  | [] => [(r, c)]
  | p :: M => if p.1 = r then (p.1, p.2 + c) :: M else p :: addC r c M
def getC (M : CtM) (r : Rel) : Nat := ((M.find? fun p => decide (p.1 = r)).map (·.2)).getD 0
def PC (l : DnE) (p : Rel × Nat) : Prop := l.1 = rK p.1 ∧ l.2.2 = V.int (p.2 : Int)
theorem pc_at {r : Rel} : ∀ {L : List DnE} {M : CtM}, Paired PC L M → ((atN L (rK r)).map (·.2)).getD (.int 0) = V.int (getC M r : Int)
  | [], [], .nil => rfl
  | l :: L, p :: M, .cons h t => by
    have ih := pc_at (r := r) t
    unfold atN getC at ih ⊢
    by_cases e : p.1 = r
    · rw [List.find?_cons_of_pos (by simp [h.1, e]), List.find?_cons_of_pos (by simpa using e)]
      exact h.2
    · have ne : ¬ l.1 = rK r := fun z => e (rK_inj (h.1.symm.trans z))
      rw [List.find?_cons_of_neg (by simpa using ne), List.find?_cons_of_neg (by simpa using e)]
      exact ih
theorem pc_none {r : Rel} : ∀ {L : List DnE} {M : CtM}, Paired PC L M → r ∉ M.map (·.1) → atN L (rK r) = none ∧ ∀ l ∈ L, l.1 ≠ rK r
  | [], [], .nil, _ => ⟨rfl, nofun⟩
  | l :: L, p :: M, .cons h t, hn => by
    rw [List.map_cons, List.mem_cons, not_or] at hn
    obtain ⟨e1, e2⟩ := pc_none t hn.2
    have ne : ¬ l.1 = rK r := fun z => hn.1 (rK_inj (h.1.symm.trans z)).symm
    refine ⟨?_, fun l' hl' => ?_⟩
    · unfold atN at e1 ⊢
      rw [List.find?_cons_of_neg (by simpa using ne)]; exact e1
    · rcases List.mem_cons.mp hl' with rfl | hl'
      · exact ne
      · exact e2 l' hl'
theorem store_ne {l : DnE} {L : List DnE} {k : NestedKey} {b : Addr} {v : V} (h : ¬ l.1 = k) : storeN (l :: L) k b v = l :: storeN L k b v := by
  have e : atN (l :: L) k = atN L k := by
    unfold atN
    rw [List.find?_cons_of_neg (by simpa using h)]
  unfold storeN
  rw [e]
  split
  · rw [List.map_cons]
    have : putN k v l = l := if_neg h
    rw [this]
  · rfl
theorem store_eq {l : DnE} {L : List DnE} {k : NestedKey} {b : Addr} {v : V} (h : l.1 = k) (hn : ∀ l' ∈ L, l'.1 ≠ k) : storeN (l :: L) k b v = (l.1, l.2.1, v) :: L := by
  have e : (atN (l :: L) k).isSome = true := by
    unfold atN
    rw [List.find?_cons_of_pos (by simpa using h)]; rfl
  unfold storeN
  rw [if_pos e, List.map_cons]
  have e1 : putN k v l = (l.1, l.2.1, v) := if_pos h
  have e2 : L.map (putN k v) = L := by
    have : L.map (putN k v) = L.map id := List.map_congr_left fun l' hl' => if_neg (hn l' hl')
    rw [this, List.map_id]
  rw [e1, e2]
theorem pc_store {r : Rel} {c : Nat} {b : Addr} : ∀ {L : List DnE} {M : CtM}, Paired PC L M → (M.map (·.1)).Nodup → Paired PC (storeN L (rK r) b (.int ((getC M r + c : Nat) : Int))) (addC r c M)
  | [], [], .nil, _ => by
    refine .cons ⟨rfl, ?_⟩ .nil
    show V.int _ = V.int _
    simp [getC]
  | l :: L, p :: M, .cons h t, hn => by
    rw [List.map_cons, List.nodup_cons] at hn
    unfold addC
    by_cases e : p.1 = r
    · subst e
      have g : getC (p :: M) p.1 = p.2 := by
        unfold getC
        rw [List.find?_cons_of_pos (by simp)]; rfl
      rw [if_pos rfl, g, store_eq h.1 (pc_none t hn.1).2]
      exact .cons ⟨h.1, rfl⟩ t
    · have ne : ¬ l.1 = rK r := fun z => e (rK_inj (h.1.symm.trans z))
      have g : getC (p :: M) r = getC M r := by
        unfold getC
        rw [List.find?_cons_of_neg (by simpa using e)]
      rw [if_neg e, g, store_ne ne]
      exact .cons h (pc_store t hn.2)
def CtAt (K : PySem.W.Frag) (P : Program) (w : World) (H : Hp) (d : Addr) (M : CtM) : Prop := ∃ (L : List DnE) (ep : Nat), H d = some (DictN P w d L ep) ∧ KeysN K H L ∧ Paired PC L M
end LA
namespace LA
open PySem L2 LamX
/-- one more in such a dict -/
theorem CtAt.put {K : PySem.W.Frag} {P : Program} {w : World} {H : Hp} {d ra : Addr} {M : CtM} {r : Rel} {c : Nat} (h : CtAt K P w H d M) (hn : (M.map (·.1)).Nodup) (hR : RAt K H (.ref ra) r) : ∃ (L : List DnE) (ep : Nat), H d = some (DictN P w d L ep) ∧ KeysN K H L ∧ L.length = M.length ∧ ((atN L (rK r)).map (·.2)).getD (.int 0) = V.int (getC M r : Int) ∧
    ∀ ep', SameT H (upd H d (DictN P w d (storeN L (rK r) ra (.int ((getC M r : Int) + (c : Int)))) ep')) ∧ CtAt K P w (upd H d (DictN P w d (storeN L (rK r) ra (.int ((getC M r : Int) + (c : Int)))) ep')) d (addC r c M) := by
  obtain ⟨L, ep, e1, e2, e3⟩ := h
  refine ⟨L, ep, e1, e2, paired_len e3, pc_at e3, fun ep' => ?_⟩
  have t : SameT H (upd H d (DictN P w d (storeN L (rK r) ra (.int ((getC M r : Int) + (c : Int)))) ep')) := sameT_ext e1
  refine ⟨t, _, ep', upd_same, (e2.store hR.key (rK_depth r)).t t, ?_⟩
  have ec : (getC M r : Int) + (c : Int) = ((getC M r + c : Nat) : Int) := by omega
  rw [ec]
  exact pc_store e3 hn
theorem CtAt.s {K : PySem.W.Frag} {P : Program} {w : World} {H H' : Hp} {d : Addr} {M : CtM} (h : CtAt K P w H d M) (S : Same H H') : CtAt K P w H' d M := by
  obtain ⟨L, ep, e1, e2, e3⟩ := h
  exact ⟨L, ep, S _ _ e1, e2.t (Same.t S), e3⟩
end LA

set_option maxHeartbeats 1000000
namespace LA
open PySem L2 LamX
theorem key_at {L : List DnE} {rs : List Rel} {i : Nat} {l : DnE} (h : L.map (·.1) = rs.map rK) (hl : L[i]? = some l) : ∃ r, rs[i]? = some r ∧ l.1 = rK r := by
  have e : (L.map (·.1))[i]? = (rs.map rK)[i]? := by rw [h]
  rw [List.getElem?_map, List.getElem?_map, hl] at e
  obtain ⟨r, hr, er⟩ := Option.map_eq_some_iff.mp e.symm
  exact ⟨r, hr, er.symm⟩
end LA
namespace LA
open PySem L2 LamX
/-- what stays through the law's own steps: the judge, the graph -/
structure W26 (K : PySem.W.Frag) (P : Program) (w : World) (H : Hp) (a d : Addr) (j : Jd) (nx : Nat) (L : List DnE) (ep : Nat) (rs : List Rel) : Prop where
  J : JAt K H (.ref a) j
  hd : H d = some (DictN P w d L ep)
  hk : KeysN K H L
  hv : ∀ l ∈ L, GrV K H j nx l
section
variable {K : PySem.W.Frag} {P : Program} {w : World} {H H' : Hp} {a d p : Addr} {j : Jd} {nx n : Nat} {L : List DnE} {ep : Nat} {rs : List Rel}
theorem W26.s (h : W26 K P w H a d j nx L ep rs) (S : Same H H') : W26 K P w H' a d j nx L ep rs :=
  ⟨h.J.t (Same.t S), S _ _ h.hd, h.hk.t (Same.t S), fun l hl => (h.hv l hl).t (Same.t S) fun _ _ _ e => S _ _ e⟩
theorem W26.x (h : W26 K P w H a d j nx L ep rs) (hP : PotAt H p n) (x1 : 1 ≤ nx) (S : SameX p H H') : W26 K P w H' a d j nx L ep rs := by
  have t := hP.t S
  refine ⟨h.J.t t, S _ _ h.hd fun z => ?_, h.hk.t t, fun l hl => (h.hv l hl).t t fun va svs e1 e2 => S _ _ e2 fun z => ?_⟩
  · obtain ⟨ys, hy⟩ := hP.lst
    have := h.hd
    rw [z, hy] at this
    unfold DictN at this
    cases this
  · obtain ⟨r, va', svs', e3, e4, e5, e6⟩ := h.hv l hl
    rw [e1] at e4
    injection e4 with e4
    subst e4
    subst z
    obtain ⟨o, m, q, h1, h2⟩ := hP
    rw [h1] at e5
    injection e5 with e5
    injection e5 with e5
    subst e5
    generalize (List.range nx).map (fun x => compR r (relL j x)) = rl at e6
    cases e6 with
    | cons z1 z2 =>
      obtain ⟨b, e⟩ := z1.ref
      cases e
end
end LA
namespace LA
open PySem L2 LamX
theorem CtAt.x {K : PySem.W.Frag} {P : Program} {w : World} {H H' : Hp} {d p : Addr} {n : Nat} {M : CtM} (h : CtAt K P w H d M) (hP : PotAt H p n) (S : SameX p H H') : CtAt K P w H' d M := by
  obtain ⟨L, ep, e1, e2, e3⟩ := h
  refine ⟨L, ep, S _ _ e1 fun z => ?_, e2.t (hP.t S), e3⟩
  obtain ⟨ys, hy⟩ := hP.lst
  rw [z, hy] at e1
  unfold DictN at e1
  cases e1
end LA
namespace LA
open PySem L2 LamX
theorem W26.n {K : PySem.W.Frag} {P : Program} {w : World} {H H' : Hp} {a d : Addr} {j : Jd} {nx : Nat} {L : List DnE} {ep : Nat} {rs : List Rel} (h : W26 K P w H a d j nx L ep rs) (N : ExtN H H') : W26 K P w H' a d j nx L ep rs :=
  ⟨h.J.t N.t, ext_dict N h.hd, h.hk.t N.t, fun l hl => (h.hv l hl).t N.t fun _ _ _ e => N _ _ e fun ps z => by cases z⟩
end LA
namespace LA
open PySem L2 LamX
end LA

set_option maxHeartbeats 1000000
namespace LA
open PySem PySem.Spec PyProof.Rows L2
def cl (s : Str) : List Nat := s.cps.toList
end LA

set_option maxHeartbeats 1000000
namespace LA
open PySem L2 LamX
end LA

set_option maxHeartbeats 1000000
namespace LA
open PySem L2 LamX
/-- words, each with its relation as key -/
def WdAt (K : PySem.W.Frag) (P : Program) (w : World) (H : Hp) (d : Addr) (j : Jd) (ws : List (List Nat)) : Prop := ∃ (L : List DnE) (ep : Nat), H d = some (DictN P w d L ep) ∧ KeysN K H L ∧ L.map (·.1) = (ws.map (relW j)).map rK ∧ Paired (fun (l : DnE) u => WordAt K H l.2.2 u) L ws
theorem WdAt.s {K : PySem.W.Frag} {P : Program} {w : World} {H H' : Hp} {d : Addr} {j : Jd} {ws : List (List Nat)} (h : WdAt K P w H d j ws) (S : Same H H') : WdAt K P w H' d j ws := by
  obtain ⟨L, ep, e1, e2, e3, e4⟩ := h
  exact ⟨L, ep, S _ _ e1, e2.t (Same.t S), e3, paired_map e4 fun _ _ z => z.t (Same.t S)⟩
end LA
namespace LA
open PySem L2 LamX
section
variable {K : PySem.W.Frag} {P : Program} {w : World} {H H' : Hp} {d : Addr} {j : Jd} {ws : List (List Nat)}
theorem WdAt.o (h : WdAt K P w H d j ws) (t : SameT H H') (e : ∀ o, H d = some o → H' d = some o) : WdAt K P w H' d j ws := by
  obtain ⟨L, ep, e1, e2, e3, e4⟩ := h
  exact ⟨L, ep, e _ e1, e2.t t, e3, paired_map e4 fun _ _ z => z.t t⟩
theorem WdAt.put {z : List Nat} {ra : Addr} {v : V} (h : WdAt K P w H d j ws) (hn : relW j z ∉ ws.map (relW j)) (hR : RAt K H (.ref ra) (relW j z)) (hv : WordAt K H v z) : ∃ (L : List DnE) (ep : Nat), H d = some (DictN P w d L ep) ∧ KeysN K H L ∧ L.length = ws.length ∧
    ∀ ep', SameT H (upd H d (DictN P w d (storeN L (rK (relW j z)) ra v) ep')) ∧ WdAt K P w (upd H d (DictN P w d (storeN L (rK (relW j z)) ra v) ep')) d j (ws ++ [z]) := by
  obtain ⟨L, ep, e1, e2, e3, e4⟩ := h
  refine ⟨L, ep, e1, e2, paired_len e4, fun ep' => ?_⟩
  have t : SameT H (upd H d (DictN P w d (storeN L (rK (relW j z)) ra v) ep')) := sameT_ext e1
  obtain ⟨es, hkey, _⟩ := storeR_keys e3 hn ra v
  refine ⟨t, _, ep', upd_same, (e2.store hR.key (rK_depth _)).t t, ?_, ?_⟩
  · rw [es, hkey, List.map_append (f := relW j)]; rfl
  · rw [es] at t ⊢
    exact paired_snoc (paired_map e4 fun _ _ y => y.t t) (hv.t t)
end
theorem tail_ne {nx : Nat} {ws : List (List Nat)} (h1 : ∃ t, ws = [] :: t) (h2 : ws.Pairwise (fun u w => valW nx u < valW nx w)) {u : List Nat} (hu : u ∈ ws.tail) : u ≠ [] := fun e => by
  obtain ⟨t, rfl⟩ := h1
  have := (List.pairwise_cons.mp h2).1 u hu
  rw [e] at this; omega
end LA

set_option maxHeartbeats 1000000
namespace LA
open PySem L2 LamX
section
variable {K : PySem.W.Frag} {P : Program} {w : World} {H H' : Hp} {a d p : Addr} {j : Jd} {nx m0 : Nat} {ws : List (List Nat)}
theorem WdAt.x (h : WdAt K P w H d j ws) (hP : PotAt H p m0) (S : SameX p H H') : WdAt K P w H' d j ws := by
  refine h.o (hP.t S) fun o e => S _ _ e fun z => ?_
  obtain ⟨L, ep, e1, _⟩ := h
  obtain ⟨ys, hy⟩ := hP.lst
  rw [z, hy] at e1
  unfold DictN at e1
  cases e1
theorem WdAt.n (h : WdAt K P w H d j ws) (N : ExtN H H') : WdAt K P w H' d j ws := by
  obtain ⟨L, ep, e1, e2, e3, e4⟩ := h
  exact ⟨L, ep, ext_dict N e1, e2.t N.t, e3, paired_map e4 fun _ _ z => z.t N.t⟩
/-- what stays through the law's own steps -/
structure W24 (K : PySem.W.Frag) (P : Program) (w : World) (H : Hp) (a d : Addr) (j : Jd) (ws : List (List Nat)) : Prop where
  J : JAt K H (.ref a) j
  wd : WdAt K P w H d j ws
theorem W24.s (h : W24 K P w H a d j ws) (S : Same H H') : W24 K P w H' a d j ws := ⟨h.J.t (Same.t S), h.wd.s S⟩
theorem W24.x (h : W24 K P w H a d j ws) (hP : PotAt H p m0) (S : SameX p H H') : W24 K P w H' a d j ws := ⟨h.J.t (hP.t S), h.wd.x hP S⟩
theorem W24.n (h : W24 K P w H a d j ws) (N : ExtN H H') : W24 K P w H' a d j ws := ⟨h.J.t N.t, h.wd.n N⟩
theorem WdAt.get (h : WdAt K P w H d j ws) (g : GrE j nx ([] :: ws)) {u : List Nat} (hu : u ∈ ws) : ∃ (L : List DnE) (ep : Nat) (b : Addr) (v : V), H d = some (DictN P w d L ep) ∧ KeysN K H L ∧ atN L (rK (relW j u)) = some (b, v) ∧ WordAt K H v u := by
  obtain ⟨L, ep, e1, e2, e3, e4⟩ := h
  have ne : ∀ u ∈ ws, u ≠ [] := fun u hu => tail_ne g.first g.inc hu
  have h1 := at_keys (r := relW j u) e3
  rw [decide_eq_true (List.mem_map.mpr ⟨u, hu, rfl⟩)] at h1
  obtain ⟨⟨b, v⟩, e⟩ := Option.isSome_iff_exists.mp h1
  have e' := e
  unfold atN at e'
  obtain ⟨l, hl, el⟩ := Option.map_eq_some_iff.mp e'
  have hm := List.mem_of_find?_eq_some hl
  have hk := List.find?_some hl
  simp only [decide_eq_true_eq] at hk
  obtain ⟨i, hi⟩ := List.mem_iff_getElem?.mp hm
  obtain ⟨u', hu', hw⟩ := paired_at e4 hi
  obtain ⟨r, hr, er⟩ := key_at e3 hi
  rw [List.getElem?_map, hu'] at hr
  have er2 : relW j u' = relW j u := by
    have : relW j u' = r := Option.some.inj hr
    rw [this]
    exact rK_inj (er.symm.trans hk)
  have m' := List.mem_of_getElem? hu'
  have eu : u' = u := ((g.mem u' (ne u' m')).mp (List.mem_cons_of_mem _ m')).uniq ((g.mem u (ne u hu)).mp (List.mem_cons_of_mem _ hu)) er2
  subst eu
  have hv : l.2 = (b, v) := el
  exact ⟨L, ep, b, v, e1, e2, e, by rw [hv] at hw; exact hw⟩
end
end LA
namespace LA
open PySem L2 LamX
end LA

set_option maxHeartbeats 1000000
namespace LA
def Edg (st : List (List Nat)) (u v : Nat) : Prop := ∃ row, st[u]? = some row ∧ v ∈ row
inductive Wk (st : List (List Nat)) : Nat → Nat → Prop
  | zero : Wk st 0 0
  | step {u v n : Nat} : Wk st u n → Edg st u v → Wk st v (n + 1)
def Lw (st : List (List Nat)) (q n : Nat) : Prop := Wk st q n ∧ ∀ m, Wk st q m → m ≤ n
theorem Lw.uniq {st : List (List Nat)} {q a b : Nat} (h : Lw st q a) (k : Lw st q b) : a = b := Nat.le_antisymm (k.2 a h.1) (h.2 b k.1)
/-- how many steps lead to q from places that are not done -/
def cR (st : List (List Nat)) (done : List Nat) (q : Nat) : Nat := ((List.range st.length).map fun u => if u ∈ done then 0 else (st.getD u []).count q).sum
theorem sum_pt {f g : Nat → Nat} {h d : Nat} : ∀ l : List Nat, l.Nodup → h ∈ l → (∀ u ∈ l, u ≠ h → f u = g u) → f h = g h + d → (l.map f).sum = (l.map g).sum + d
  | [], _, hm, _, _ => by cases hm
  | a :: l, nd, hm, e, eh => by
    obtain ⟨n1, n2⟩ := List.nodup_cons.mp nd
    rw [List.map_cons, List.map_cons, List.sum_cons, List.sum_cons]
    rcases List.mem_cons.mp hm with rfl | hm
    · have : l.map f = l.map g := List.map_congr_left fun u hu => e u (List.mem_cons_of_mem _ hu) fun z => n1 (z ▸ hu)
      rw [this, eh]; omega
    · have ea := e a List.mem_cons_self fun z => n1 (z ▸ hm)
      rw [ea, sum_pt l n2 hm (fun u hu => e u (List.mem_cons_of_mem _ hu)) eh]; omega
theorem cR_step {st : List (List Nat)} {done : List Nat} {here q : Nat} {row : List Nat} (hr : st[here]? = some row) (hn : here ∉ done) : cR st done q = cR st (here :: done) q + row.count q := by
  have hl := (List.getElem?_eq_some_iff.mp hr).1
  unfold cR
  refine sum_pt (h := here) _ List.nodup_range (List.mem_range.mpr hl) (fun u _ hu => ?_) ?_
  · have : (u ∈ here :: done) ↔ u ∈ done := by simp [hu]
    simp only [this]
  · rw [if_neg hn, if_pos List.mem_cons_self, List.getD_eq_getElem?_getD, hr]; simp
theorem sum_zero {f : Nat → Nat} : ∀ l : List Nat, (l.map f).sum = 0 → ∀ u ∈ l, f u = 0
  | [], _, u, h => by cases h
  | a :: l, e, u, h => by
    rw [List.map_cons, List.sum_cons] at e
    rcases List.mem_cons.mp h with rfl | h
    · omega
    · exact sum_zero l (by omega) u h
theorem sum_pos {f : Nat → Nat} : ∀ l : List Nat, 0 < (l.map f).sum → ∃ u ∈ l, 0 < f u
  | [], e => by cases e
  | a :: l, e => by
    rw [List.map_cons, List.sum_cons] at e
    rcases Nat.eq_zero_or_pos (f a) with z | z
    · obtain ⟨u, h, k⟩ := sum_pos (f := f) l (by omega)
      exact ⟨u, List.mem_cons_of_mem _ h, k⟩
    · exact ⟨a, List.mem_cons_self, z⟩
theorem cR_zero {st : List (List Nat)} {done : List Nat} {q : Nat} (h : cR st done q = 0) {u : Nat} (hu : Edg st u q) : u ∈ done := by
  obtain ⟨row, e, hq⟩ := hu
  have := sum_zero _ h u (List.mem_range.mpr (List.getElem?_eq_some_iff.mp e).1)
  by_cases c : u ∈ done
  · exact c
  · rw [if_neg c, List.getD_eq_getElem?_getD, e] at this
    exact absurd hq (List.count_eq_zero.mp this)
theorem cR_pos {st : List (List Nat)} {done : List Nat} {q : Nat} (h : 0 < cR st done q) : ∃ u, u ∉ done ∧ Edg st u q := by
  obtain ⟨u, hu, k⟩ := sum_pos _ h
  by_cases c : u ∈ done
  · rw [if_pos c] at k; cases k
  · rw [if_neg c, List.getD_eq_getElem?_getD, List.getElem?_eq_getElem (List.mem_range.mp hu)] at k
    exact ⟨u, c, _, List.getElem?_eq_getElem (List.mem_range.mp hu), List.count_pos_iff.mp k⟩
/-- what the graph is like -/
structure GrW (st : List (List Nat)) : Prop where
  pos : 0 < st.length
  ed : ∀ u v, Edg st u v → 0 < v ∧ v < st.length
  bk : ∀ v, 0 < v → v < st.length → ∃ u, Edg st u v
  rc : ∀ v, v < st.length → ∃ n, Wk st v n
/-- the state: done, the one at hand and how far it is read (dn: the places that are done, the one at hand too; Ed: steps that were made), ready; lengths; what is left -/
structure KhI (st : List (List Nat)) (Ed : Nat → Nat → Prop) (dr : List Nat) (ln : Nat → Option Nat) (lf : Nat → Nat) : Prop where
  nd : dr.Nodup
  lt : ∀ q ∈ dr, q < st.length
  ze : ∀ q, q < st.length → (q ∈ dr ↔ lf q = 0)
  ke : ∀ q, (ln q).isSome = true ↔ q = 0 ∨ ∃ u, Ed u q
  va : ∀ q n, ln q = some n → (q = 0 ∧ n = 0) ∨ ∃ u m, Ed u q ∧ ln u = some m ∧ n = m + 1
  mx : ∀ u q m, Ed u q → ln u = some m → ∃ n, ln q = some n ∧ m + 1 ≤ n
  ok : ∀ q ∈ dr, ∃ n, ln q = some n ∧ Lw st q n
  eo : ∀ u q, Ed u q → Edg st u q ∧ u ∈ dr
def setF (f : Nat → Option Nat) (q n : Nat) : Nat → Option Nat := fun p => if p = q then some n else f p
def setN (f : Nat → Nat) (q n : Nat) : Nat → Nat := fun p => if p = q then n else f p
/-- the end of all: those that are done are those that finitely many ways lead to -/
theorem KhI.out {st : List (List Nat)} {done : List Nat} {ln : Nat → Option Nat} {lf : Nat → Nat} (W : GrW st) (I : KhI st (fun u q => u ∈ done ∧ Edg st u q) done ln lf) (hl : ∀ q, q < st.length → lf q = cR st done q) :
    (∀ q, q < st.length → lf q = 0 → ∃ n, ln q = some n ∧ Lw st q n) ∧ ∀ q, q < st.length → lf q ≠ 0 → ∀ n, ∃ m, n ≤ m ∧ Wk st q m := by
  refine ⟨fun q hq hz => I.ok q ((I.ze q hq).mpr hz), fun q hq hz n => ?_⟩
  induction n generalizing q with
  | zero =>
    obtain ⟨k, hk⟩ := W.rc q hq
    exact ⟨k, Nat.zero_le _, hk⟩
  | succ n ih =>
    have := hl q hq
    obtain ⟨u, hu, e⟩ := cR_pos (st := st) (done := done) (q := q) (by omega)
    have hul : u < st.length := by
      obtain ⟨row, a, _⟩ := e
      exact (List.getElem?_eq_some_iff.mp a).1
    obtain ⟨m, hm, k⟩ := ih u hul fun z => hu ((I.ze u hul).mpr z)
    exact ⟨m + 1, by omega, .step k e⟩
/-- one step -/
theorem KhI.step {st : List (List Nat)} {Ed : Nat → Nat → Prop} {dr : List Nat} {ln : Nat → Option Nat} {lf : Nat → Nat} {here place m : Nat} (W : GrW st) (I : KhI st Ed dr ln lf) (hh : here ∈ dr) (hm : ln here = some m) (he : Edg st here place) (hp : 0 < lf place)
    (hall : lf place = 1 → ∀ u, Edg st u place → Ed u place ∨ u = here) :
    KhI st (fun u q => Ed u q ∨ (u = here ∧ q = place)) (if lf place - 1 = 0 then dr ++ [place] else dr) (setF ln place (max ((ln place).getD 0) (m + 1))) (setN lf place (lf place - 1)) := by
  obtain ⟨p0, pl⟩ := W.ed _ _ he
  have np : place ∉ dr := fun z => by have := (I.ze place pl).mp z; omega
  have hne : here ≠ place := fun z => np (z ▸ hh)
  have old : ∀ u, u ≠ place → setF ln place (max ((ln place).getD 0) (m + 1)) u = ln u := fun u h => by unfold setF; rw [if_neg h]
  have new : setF ln place (max ((ln place).getD 0) (m + 1)) place = some (max ((ln place).getD 0) (m + 1)) := by unfold setF; rw [if_pos rfl]
  have une : ∀ u q, Ed u q → u ≠ place := fun u q h z => np (z ▸ (I.eo u q h).2)
  have mxn : ∀ u k, (Ed u place ∨ u = here) → ln u = some k → k + 1 ≤ max ((ln place).getD 0) (m + 1) := fun u k h hk => by
    rcases h with h | rfl
    · obtain ⟨n, e1, e2⟩ := I.mx u place k h hk
      rw [e1]; show k + 1 ≤ max n (m + 1); omega
    · rw [hm] at hk; cases hk; omega
  have van : ∃ u k, (Ed u place ∨ u = here) ∧ ln u = some k ∧ max ((ln place).getD 0) (m + 1) = k + 1 := by
    rcases Nat.lt_or_ge m ((ln place).getD 0) with c | c
    · cases e : ln place with
      | none => rw [e] at c; cases c
      | some n =>
        rw [e] at c
        rcases I.va place n e with ⟨z, _⟩ | ⟨u, k, h1, h2, h3⟩
        · omega
        · exact ⟨u, k, .inl h1, h2, by show max n (m + 1) = k + 1; have : m < n := c; omega⟩
    · exact ⟨here, m, .inr rfl, hm, by omega⟩
  have okn : lf place - 1 = 0 → Lw st place (max ((ln place).getD 0) (m + 1)) := fun hz => by
    have h1 := hall (by omega)
    have io : ∀ u, (Ed u place ∨ u = here) → u ∈ dr := fun u h => by
      rcases h with h | rfl
      · exact (I.eo u place h).2
      · exact hh
    constructor
    · obtain ⟨u, k, a, b, c⟩ := van
      obtain ⟨n, e1, e2⟩ := I.ok u (io u a)
      rw [b] at e1; cases e1
      rw [c]
      refine .step e2.1 ?_
      rcases a with a | rfl
      · exact (I.eo u place a).1
      · exact he
    · intro k hk
      cases hk with
      | zero => omega
      | @step u _ n w e =>
        have a := h1 u e
        obtain ⟨k, e1, e2⟩ := I.ok u (io u a)
        have := mxn u k a e1
        have := e2.2 n w
        omega
  refine ⟨?_, fun q hq => ?_, fun q hq => ?_, fun q => ?_, fun q n h => ?_, fun u q k h1 h2 => ?_, fun q hq => ?_, fun u q h => ?_⟩
  · split
    · rw [List.nodup_append]
      exact ⟨I.nd, by simp, fun a ha b hb => by rw [List.mem_singleton.mp hb]; exact fun e => np (e ▸ ha)⟩
    · exact I.nd
  · split at hq
    · rcases List.mem_append.mp hq with z | z
      · exact I.lt q z
      · rw [List.mem_singleton.mp z]; exact pl
    · exact I.lt q hq
  · by_cases e : q = place
    · subst e
      unfold setN
      rw [if_pos rfl]
      split
      · rename_i z; simp [z]
      · rename_i z; exact ⟨fun k => absurd k np, fun k => absurd k z⟩
    · unfold setN
      rw [if_neg e, ← I.ze q hq]
      split
      · simp [e]
      · exact Iff.rfl
  · by_cases e : q = place
    · subst e
      rw [new]
      exact ⟨fun _ => .inr ⟨here, .inr ⟨rfl, rfl⟩⟩, fun _ => rfl⟩
    · rw [old q e, I.ke q]
      constructor
      · rintro (z | ⟨u, z⟩)
        · exact .inl z
        · exact .inr ⟨u, .inl z⟩
      · rintro (z | ⟨u, z | ⟨_, z⟩⟩)
        · exact .inl z
        · exact .inr ⟨u, z⟩
        · exact absurd z e
  · by_cases e : q = place
    · subst e
      rw [new] at h
      obtain ⟨u, k, a, b, c⟩ := van
      refine .inr ⟨u, k, ?_, ?_, by rw [← Option.some.inj h]; exact c⟩
      · rcases a with a | a
        · exact .inl a
        · exact .inr ⟨a, rfl⟩
      · rw [old u ?_, b]
        rcases a with a | rfl
        · exact une u q a
        · exact hne
    · rw [old q e] at h
      rcases I.va q n h with z | ⟨u, k, a, b, c⟩
      · exact .inl z
      · exact .inr ⟨u, k, .inl a, by rw [old u (une u q a)]; exact b, c⟩
  · have hu : u ≠ place := by
      rcases h1 with h1 | ⟨rfl, _⟩
      · exact une u q h1
      · exact hne
    rw [old u hu] at h2
    by_cases e : q = place
    · subst e
      refine ⟨_, new, mxn u k ?_ h2⟩
      rcases h1 with h1 | ⟨rfl, _⟩
      · exact .inl h1
      · exact .inr rfl
    · rw [old q e]
      rcases h1 with h1 | ⟨_, z⟩
      · exact I.mx u q k h1 h2
      · exact absurd z e
  · have go : q ∈ dr → ∃ n, setF ln place (max ((ln place).getD 0) (m + 1)) q = some n ∧ Lw st q n := fun z => by
      rw [old q fun e => np (e ▸ z)]; exact I.ok q z
    split at hq
    · rename_i z
      rcases List.mem_append.mp hq with y | y
      · exact go y
      · rw [List.mem_singleton.mp y]
        exact ⟨_, new, okn z⟩
    · exact go hq
  · have io : u ∈ dr → u ∈ (if lf place - 1 = 0 then dr ++ [place] else dr) := fun z => by
      split
      · exact List.mem_append_left _ z
      · exact z
    rcases h with h | ⟨rfl, rfl⟩
    · exact ⟨(I.eo u q h).1, io (I.eo u q h).2⟩
    · exact ⟨he, io hh⟩
/-- steps that were made: those from the places that are done, and the first i of the one at hand -/
def EdI (st : List (List Nat)) (done : List Nat) (here : Nat) (row : List Nat) (i u q : Nat) : Prop := (u ∈ done ∧ Edg st u q) ∨ (u = here ∧ q ∈ row.take i)
def EdO (st : List (List Nat)) (done : List Nat) (u q : Nat) : Prop := u ∈ done ∧ Edg st u q
theorem EdI.zero {st : List (List Nat)} {done : List Nat} {here : Nat} {row : List Nat} : EdI st done here row 0 = EdO st done := by
  funext u q
  unfold EdI EdO
  simp
theorem EdI.succ {st : List (List Nat)} {done : List Nat} {here : Nat} {row : List Nat} {i p : Nat} (hp : row[i]? = some p) : EdI st done here row (i + 1) = fun u q => EdI st done here row i u q ∨ (u = here ∧ q = p) := by
  funext u q
  unfold EdI
  rw [List.take_add_one, hp]
  simp only [List.mem_append, Option.toList_some, List.mem_singleton, eq_iff_iff]
  constructor
  · rintro (z | ⟨a, z | z⟩)
    · exact .inl (.inl z)
    · exact .inl (.inr ⟨a, z⟩)
    · exact .inr ⟨a, z⟩
  · rintro ((z | ⟨a, z⟩) | ⟨a, z⟩)
    · exact .inl z
    · exact .inr ⟨a, .inl z⟩
    · exact .inr ⟨a, .inr z⟩
theorem EdI.all {st : List (List Nat)} {done : List Nat} {here : Nat} {row : List Nat} (hr : st[here]? = some row) : EdI st done here row row.length = EdO st (here :: done) := by
  funext u q
  unfold EdI EdO
  rw [List.take_length]
  simp only [List.mem_cons, eq_iff_iff]
  constructor
  · rintro (⟨a, z⟩ | ⟨rfl, z⟩)
    · exact ⟨.inr a, z⟩
    · exact ⟨.inl rfl, row, hr, z⟩
  · rintro ⟨rfl | a, z⟩
    · obtain ⟨row', e, h⟩ := z
      rw [hr] at e; cases e
      exact .inr ⟨rfl, h⟩
    · exact .inl ⟨a, z⟩
/-- what is left in the midst of a row -/
def lfI (st : List (List Nat)) (done : List Nat) (here : Nat) (row : List Nat) (i q : Nat) : Nat := cR st (here :: done) q + (row.drop i).count q
theorem lfI.zero {st : List (List Nat)} {done : List Nat} {here : Nat} {row : List Nat} (hr : st[here]? = some row) (hn : here ∉ done) : lfI st done here row 0 = cR st done := by
  funext q
  unfold lfI
  rw [List.drop_zero, cR_step hr hn]
theorem drop_at {row : List Nat} {i p : Nat} (hp : row[i]? = some p) : row.drop i = p :: row.drop (i + 1) := by
  have hl := (List.getElem?_eq_some_iff.mp hp).1
  rw [List.drop_eq_getElem_cons hl]
  rw [(List.getElem?_eq_some_iff.mp hp).2]
theorem lfI.succ {st : List (List Nat)} {done : List Nat} {here : Nat} {row : List Nat} {i p : Nat} (hp : row[i]? = some p) : 0 < lfI st done here row i p ∧ lfI st done here row (i + 1) = setN (lfI st done here row i) p (lfI st done here row i p - 1) := by
  have e := drop_at hp
  refine ⟨by unfold lfI; rw [e, List.count_cons_self]; omega, ?_⟩
  funext q
  unfold setN lfI
  rw [e]
  by_cases c : q = p
  · subst c
    rw [if_pos rfl, List.count_cons_self]; omega
  · rw [if_neg c, List.count_cons_of_ne (fun z => c z.symm)]
theorem lfI.all {st : List (List Nat)} {done : List Nat} {here : Nat} {row : List Nat} : lfI st done here row row.length = cR st (here :: done) := by
  funext q
  unfold lfI
  rw [List.drop_length]; rfl
theorem KhI.next {st : List (List Nat)} {done dr : List Nat} {ln : Nat → Option Nat} {here i p m : Nat} {row : List Nat} (W : GrW st) (hr : st[here]? = some row) (I : KhI st (EdI st done here row i) dr ln (lfI st done here row i)) (hh : here ∈ dr) (hm : ln here = some m) (hp : row[i]? = some p) :
    KhI st (EdI st done here row (i + 1)) (if lfI st done here row i p - 1 = 0 then dr ++ [p] else dr) (setF ln p (max ((ln p).getD 0) (m + 1))) (lfI st done here row (i + 1)) := by
  obtain ⟨e1, e2⟩ := lfI.succ (st := st) (done := done) (here := here) hp
  rw [e2, EdI.succ hp]
  refine I.step W hh hm ⟨row, hr, List.mem_of_getElem? hp⟩ e1 fun z u hu => ?_
  have c1 : 0 < (row.drop i).count p := by rw [drop_at hp]; simp
  have c2 : cR st (here :: done) p = 0 := by
    unfold lfI at z; omega
  rcases List.mem_cons.mp (cR_zero c2 hu) with h | h
  · exact .inr h
  · exact .inl (.inl ⟨h, hu⟩)
theorem KhI.init {st : List (List Nat)} (W : GrW st) : KhI st (EdO st []) [0] (fun q => if q = 0 then some 0 else none) (cR st []) := by
  refine ⟨by simp, fun q h => by rw [List.mem_singleton.mp h]; exact W.pos, fun q hq => ?_, fun q => ?_, fun q n h => ?_, fun u q m h => absurd h.1 (by simp), fun q h => ?_, fun u q h => absurd h.1 (by simp)⟩
  · rw [List.mem_singleton]
    constructor
    · rintro rfl
      rcases Nat.eq_zero_or_pos (cR st [] 0) with z | z
      · exact z
      · obtain ⟨u, _, e⟩ := cR_pos z
        have := (W.ed _ _ e).1
        omega
    · intro z
      rcases Nat.eq_zero_or_pos q with c | c
      · exact c
      · obtain ⟨u, e⟩ := W.bk q c hq
        have := cR_zero z e
        cases this
  · constructor
    · intro h
      by_cases c : q = 0
      · exact .inl c
      · rw [if_neg c] at h; cases h
    · rintro (c | ⟨u, h⟩)
      · rw [if_pos c]; rfl
      · exact absurd h.1 (by simp)
  · by_cases c : q = 0
    · rw [if_pos c] at h; exact .inl ⟨c, (Option.some.inj h).symm⟩
    · rw [if_neg c] at h; cases h
  · rw [List.mem_singleton.mp h]
    refine ⟨0, rfl, .zero, fun m w => ?_⟩
    cases w with
    | zero => exact Nat.le_refl _
    | step _ e =>
      have := (W.ed _ _ e).1
      omega
end LA
namespace LA
section
variable {j : Jd} {nx : Nat} {ws st : List (List Nat)} {og : List (Nat × Nat)}
theorem GrM.zero (g : GrM j nx ws st og) : ws[0]? = some [] := by
  obtain ⟨t, e⟩ := g.e.first
  rw [e]; rfl
theorem GrM.pos (g : GrM j nx ws st og) : 0 < ws.length := (List.getElem?_eq_some_iff.mp g.zero).1
theorem GrM.lst (g : GrM j nx ws st og) {q : Nat} {v : List Nat} (h : ws[q]? = some v) (hv : v ≠ []) : Lst j nx v := (g.e.mem v hv).mp (List.mem_of_getElem? h)
theorem GrM.idx (g : GrM j nx ws st og) {p q : Nat} {v : List Nat} (h1 : ws[p]? = some v) (h2 : ws[q]? = some v) : p = q := by
  obtain ⟨i1, e1⟩ := List.getElem?_eq_some_iff.mp h1
  obtain ⟨i2, e2⟩ := List.getElem?_eq_some_iff.mp h2
  have P := List.pairwise_iff_getElem.mp g.e.inc
  rcases Nat.lt_trichotomy p q with c | c | c
  · have := P p q i1 i2 c
    rw [e1, e2] at this; omega
  · exact c
  · have := P q p i2 i1 c
    rw [e1, e2] at this; omega
theorem GrM.uniq (g : GrM j nx ws st og) {p q : Nat} {u v : List Nat} (h1 : ws[p]? = some u) (h2 : ws[q]? = some v) (nu : u ≠ []) (nv : v ≠ []) (e : relW j u = relW j v) : p = q := by
  have := (g.lst h1 nu).uniq (g.lst h2 nv) e
  subst this
  exact g.idx h1 h2
theorem GrM.edge (g : GrM j nx ws st og) {u v : Nat} (h : Edg st u v) : ∃ wu wv x, ws[u]? = some wu ∧ ws[v]? = some wv ∧ wv ≠ [] ∧ x < nx ∧ relW j wv = relW j (wu ++ [x]) := by
  obtain ⟨row, e, hv⟩ := h
  have hl := (List.getElem?_eq_some_iff.mp e).1
  rw [g.sl] at hl
  have hu : ws[u]? = some ws[u] := List.getElem?_eq_getElem hl
  obtain ⟨a, b⟩ := g.st u _ row hu e
  obtain ⟨x, hx⟩ := List.mem_iff_getElem?.mp hv
  obtain ⟨wv, h1, h2, h3⟩ := b x v hx
  exact ⟨_, wv, x, hu, h1, h2, by have := (List.getElem?_eq_some_iff.mp hx).1; omega, h3⟩
theorem GrM.go (g : GrM j nx ws st og) {u x : Nat} {wu : List Nat} (h : ws[u]? = some wu) (hx : x < nx) : ∃ q v, Edg st u q ∧ ws[q]? = some v ∧ v ≠ [] ∧ relW j v = relW j (wu ++ [x]) := by
  have hl := (List.getElem?_eq_some_iff.mp h).1
  have e : st[u]? = some (st[u]'(by rw [g.sl]; exact hl)) := List.getElem?_eq_getElem (by rw [g.sl]; exact hl)
  obtain ⟨a, b⟩ := g.st u _ _ h e
  have hr := List.getElem?_eq_getElem (l := st[u]'(by rw [g.sl]; exact hl)) (i := x) (by omega)
  obtain ⟨v, h1, h2, h3⟩ := b x _ hr
  exact ⟨_, v, ⟨_, e, List.mem_of_getElem? hr⟩, h1, h2, h3⟩
theorem GrM.bk (g : GrM j nx ws st og) {v : Nat} (h0 : 0 < v) (hv : v < ws.length) : ∃ u, u < v ∧ Edg st u v := by
  have hl := g.og.1
  obtain ⟨⟨h, x⟩, e⟩ : ∃ p, og[v - 1]? = some p := ⟨_, List.getElem?_eq_getElem (by omega)⟩
  obtain ⟨u, h1, h2, h3, h4⟩ := g.og.2 _ h x e
  have ev : v - 1 + 1 = v := by omega
  rw [ev] at h2
  obtain ⟨q, w, a, b, c, d⟩ := g.go h1 h4
  have := g.uniq h2 b (by simp) c d.symm
  subst this
  exact ⟨h, by omega, a⟩
theorem GrM.w (g : GrM j nx ws st og) : GrW st where
  pos := by rw [g.sl]; exact g.pos
  ed := fun u v h => by
    obtain ⟨wu, wv, x, h1, h2, h3, _⟩ := g.edge h
    refine ⟨Nat.pos_of_ne_zero fun z => ?_, by rw [g.sl]; exact (List.getElem?_eq_some_iff.mp h2).1⟩
    rw [z, g.zero] at h2; exact h3 (Option.some.inj h2).symm
  bk := fun v h0 hv => by
    rw [g.sl] at hv
    obtain ⟨u, _, e⟩ := g.bk h0 hv
    exact ⟨u, e⟩
  rc := fun v hv => by
    rw [g.sl] at hv
    induction v using Nat.strongRecOn with
    | ind v ih =>
      rcases Nat.eq_zero_or_pos v with c | c
      · subst c; exact ⟨0, .zero⟩
      · obtain ⟨u, hu, e⟩ := g.bk c hv
        obtain ⟨n, hn⟩ := ih u hu (by omega)
        exact ⟨n + 1, .step hn e⟩
/-- the place of a word -/
def PlW (j : Jd) (ws : List (List Nat)) (q : Nat) (w : List Nat) : Prop := (w = [] ∧ q = 0) ∨ (w ≠ [] ∧ ∃ v, ws[q]? = some v ∧ v ≠ [] ∧ relW j v = relW j w)
theorem PlW.wd {q : Nat} {w : List Nat} (g : GrM j nx ws st og) (h : PlW j ws q w) : ∃ v, ws[q]? = some v ∧ relW j v = relW j w := by
  rcases h with ⟨rfl, rfl⟩ | ⟨_, v, a, _, b⟩
  · exact ⟨[], g.zero, rfl⟩
  · exact ⟨v, a, b⟩
theorem wk_word (g : GrM j nx ws st og) {q n : Nat} (h : Wk st q n) : ∃ w, w.length = n ∧ OvW nx w ∧ PlW j ws q w := by
  induction h with
  | zero => exact ⟨[], rfl, nofun, .inl ⟨rfl, rfl⟩⟩
  | @step u v n hw he ih =>
    obtain ⟨w, h1, h2, h3⟩ := ih
    obtain ⟨wu, wv, x, a, b, c, d, e⟩ := g.edge he
    obtain ⟨v', e1, e2⟩ := h3.wd g
    rw [a] at e1; cases e1
    exact ⟨w ++ [x], by simp [h1], h2.snoc d, .inr ⟨by simp, wv, b, c, e.trans (rel_snoc e2 x)⟩⟩
theorem word_wk (g : GrM j nx ws st og) : ∀ (n : Nat) (w : List Nat), w.length = n → OvW nx w → ∃ q, Wk st q n ∧ PlW j ws q w
  | 0, w, hn, _ => ⟨0, .zero, .inl ⟨List.length_eq_zero_iff.mp hn, rfl⟩⟩
  | n + 1, w, hn, ho => by
    have hw : w ≠ [] := fun z => by subst z; cases hn
    obtain ⟨u, x, rfl⟩ := snoc_of hw
    obtain ⟨q, h1, h2⟩ := word_wk g n u (by simpa using hn) ho.init.1
    obtain ⟨v, e1, e2⟩ := h2.wd g
    obtain ⟨p, v', a, b, c, d⟩ := g.go e1 ho.init.2
    exact ⟨p, .step h1 a, .inr ⟨by simp, v', b, c, d.trans (rel_snoc e2 x)⟩⟩
theorem wk_iff (g : GrM j nx ws st og) {q n : Nat} {v : List Nat} (hq : ws[q]? = some v) (hv : v ≠ []) : Wk st q n ↔ ∃ w, w ≠ [] ∧ w.length = n ∧ OvW nx w ∧ relW j w = relW j v := by
  constructor
  · intro h
    obtain ⟨w, h1, h2, h3⟩ := wk_word g h
    rcases h3 with ⟨_, rfl⟩ | ⟨a, v', b, c, d⟩
    · rw [g.zero] at hq; exact absurd (Option.some.inj hq).symm hv
    · rw [hq] at b; cases b
      exact ⟨w, a, h1, h2, d.symm⟩
  · rintro ⟨w, h1, h2, h3, h4⟩
    obtain ⟨p, a, b⟩ := word_wk g n w h2 h3
    rcases b with ⟨z, _⟩ | ⟨_, v', b, c, d⟩
    · exact absurd z h1
    · have := g.uniq b hq c hv (d.trans h4)
      subst this
      exact a
end
/-- a relation that infinitely many words have -/
def LongR (j : Jd) (nx : Nat) (r : Rel) : Prop := ∀ n, ∃ w, w ≠ [] ∧ n ≤ w.length ∧ OvW nx w ∧ relW j w = r
def LongP (st : List (List Nat)) (q : Nat) : Prop := ∀ n, ∃ m, n ≤ m ∧ Wk st q m
def LwR (j : Jd) (nx : Nat) (r : Rel) (n : Nat) : Prop := (∃ w, w ≠ [] ∧ w.length = n ∧ OvW nx w ∧ relW j w = r) ∧ ∀ w, w ≠ [] → OvW nx w → relW j w = r → w.length ≤ n
theorem LongR.rl {j : Jd} {nx : Nat} {r : Rel} (h : LongR j nx r) : IsRl j nx r := by
  obtain ⟨w, a, _, b, c⟩ := h 0
  exact ⟨w, a, b, c.symm⟩
section
variable {j : Jd} {nx : Nat} {ws st : List (List Nat)} {og : List (Nat × Nat)}
theorem long_iff (g : GrM j nx ws st og) {q : Nat} {v : List Nat} (hq : ws[q]? = some v) (hv : v ≠ []) : LongP st q ↔ LongR j nx (relW j v) := by
  constructor
  · intro h n
    obtain ⟨m, a, b⟩ := h n
    obtain ⟨w, h1, h2, h3, h4⟩ := (wk_iff g hq hv).mp b
    exact ⟨w, h1, by omega, h3, h4⟩
  · intro h n
    obtain ⟨w, h1, h2, h3, h4⟩ := h n
    exact ⟨w.length, h2, (wk_iff g hq hv).mpr ⟨w, h1, rfl, h3, h4⟩⟩
theorem long_zero (g : GrM j nx ws st og) : ¬ LongP st 0 := fun h => by
  obtain ⟨m, a, b⟩ := h 1
  cases b with
  | zero => omega
  | step _ e => have := (g.w.ed _ _ e).1; omega
theorem LongP.next {st : List (List Nat)} {u q : Nat} (h : LongP st u) (e : Edg st u q) : LongP st q := fun n => by
  obtain ⟨m, a, b⟩ := h n
  exact ⟨m + 1, by omega, .step b e⟩
end
/-- two places of a list alike -/
theorem twice {α : Type} [DecidableEq α] {l : List α} (h : ¬ l.Nodup) : ∃ (a b : Nat) (x : α), a < b ∧ l[a]? = some x ∧ l[b]? = some x := by
  rw [List.nodup_iff_pairwise_ne, List.pairwise_iff_getElem] at h
  simp only [Classical.not_forall] at h
  obtain ⟨a, b, ha, hb, hab, he⟩ := h
  refine ⟨a, b, l[a], hab, List.getElem?_eq_getElem ha, ?_⟩
  rw [List.getElem?_eq_getElem hb]
  congr 1
  exact (Classical.not_not.mp he).symm
theorem ovw_app {nx : Nat} {u v : List Nat} (h : OvW nx u) (k : OvW nx v) : OvW nx (u ++ v) := fun x hx => (List.mem_append.mp hx).elim (h x) (k x)
theorem ovw_mono {nx : Nat} {u v : List Nat} (h : OvW nx v) (k : ∀ x ∈ u, x ∈ v) : OvW nx u := fun x hx => h x (k x hx)
theorem rel_app {j : Jd} {u v : List Nat} (h : relW j u = relW j v) : ∀ t : List Nat, relW j (u ++ t) = relW j (v ++ t)
  | [] => by rw [List.append_nil, List.append_nil]; exact h
  | x :: t => by
    have := rel_app (rel_snoc h x) t
    simpa using this
def pumpW (v : List Nat) : Nat → List Nat
  | 0 => []
  | k + 1 => v ++ pumpW v k
theorem pump_len (v : List Nat) : ∀ k, (pumpW v k).length = k * v.length
  | 0 => by simp [pumpW]
  | k + 1 => by unfold pumpW; rw [List.length_append, pump_len v k, Nat.succ_mul]; omega
theorem pump_ov {nx : Nat} {v : List Nat} (h : OvW nx v) : ∀ k, OvW nx (pumpW v k)
  | 0 => nofun
  | k + 1 => ovw_app h (pump_ov h k)
theorem pump_rel {j : Jd} {u v : List Nat} (h : relW j (u ++ v) = relW j u) : ∀ k, relW j (u ++ pumpW v k) = relW j u
  | 0 => by unfold pumpW; rw [List.append_nil]
  | k + 1 => by
    unfold pumpW
    rw [← List.append_assoc, rel_app h (pumpW v k)]
    exact pump_rel h k
/-- behind a circle all is long -/
theorem long_of {j : Jd} {nx : Nat} {u v t : List Nat} (hu : u ≠ []) (hv : v ≠ []) (h1 : OvW nx u) (h2 : OvW nx v) (h3 : OvW nx t) (h : relW j (u ++ v) = relW j u) : LongR j nx (relW j (u ++ t)) := fun n => by
  refine ⟨u ++ pumpW v n ++ t, by simp [hu], ?_, ovw_app (ovw_app h1 (pump_ov h2 n)) h3, rel_app (pump_rel h n) t⟩
  have : 0 < v.length := List.length_pos_iff.mpr hv
  have : n * 1 ≤ n * v.length := Nat.mul_le_mul_left _ this
  rw [List.length_append, List.length_append, pump_len]; omega
/-- a word of more letters than there are relations -/
theorem circle {j : Jd} {nx : Nat} {rs : List Rel} (hm : ∀ r, IsRl j nx r → r ∈ rs) {w : List Nat} (ho : OvW nx w) (hl : rs.length < w.length) : ∃ u v t, w = u ++ v ++ t ∧ u ≠ [] ∧ v ≠ [] ∧ relW j (u ++ v) = relW j u := by
  have nn : ¬ ((List.range w.length).map fun i => relW j (w.take (i + 1))).Nodup := fun z => by
    have := nodup_lenD _ rs z fun r hr => by
      obtain ⟨i, hi, rfl⟩ := List.mem_map.mp hr
      have hi := List.mem_range.mp hi
      refine hm _ ⟨w.take (i + 1), ?_, ovw_mono ho fun x hx => List.mem_of_mem_take hx, rfl⟩
      intro e
      have := congrArg List.length e
      rw [List.length_take, List.length_nil] at this
      omega
    rw [List.length_map, List.length_range] at this
    omega
  obtain ⟨a, b, x, hab, ha, hb⟩ := twice nn
  rw [List.getElem?_map] at ha hb
  obtain ⟨a', ea, ra⟩ := Option.map_eq_some_iff.mp ha
  obtain ⟨b', eb, rb⟩ := Option.map_eq_some_iff.mp hb
  have la := (List.getElem?_eq_some_iff.mp ea).1
  have lb := (List.getElem?_eq_some_iff.mp eb).1
  rw [List.length_range] at la lb
  rw [List.getElem?_range la] at ea
  rw [List.getElem?_range lb] at eb
  cases ea; cases eb
  have e1 : w.take (b + 1) = w.take (a + 1) ++ (w.take (b + 1)).drop (a + 1) := by
    have := List.take_append_drop (a + 1) (w.take (b + 1))
    rw [List.take_take, Nat.min_eq_left (by omega)] at this
    exact this.symm
  refine ⟨w.take (a + 1), (w.take (b + 1)).drop (a + 1), w.drop (b + 1), ?_, ?_, ?_, ?_⟩
  · rw [← e1, List.take_append_drop]
  · intro e
    have := congrArg List.length e
    rw [List.length_take, List.length_nil] at this
    omega
  · intro e
    have := congrArg List.length e
    rw [List.length_drop, List.length_take, List.length_nil] at this
    omega
  · rw [← e1, rb, ra]
theorem long_len {j : Jd} {nx : Nat} {rs : List Rel} (hm : ∀ r, IsRl j nx r → r ∈ rs) {w : List Nat} (ho : OvW nx w) (hl : rs.length < w.length) : LongR j nx (relW j w) := by
  obtain ⟨u, v, t, rfl, h1, h2, h3⟩ := circle hm ho hl
  have o1 : OvW nx u := ovw_mono ho fun x hx => by simp [hx]
  have o2 : OvW nx v := ovw_mono ho fun x hx => by simp [hx]
  have o3 : OvW nx t := ovw_mono ho fun x hx => by simp [hx]
  have := long_of (t := v ++ t) h1 h2 o1 o2 (ovw_app o2 o3) h3
  rwa [← List.append_assoc] at this
end LA

set_option maxHeartbeats 1000000
namespace LA
open PySem PySem.Spec PyProof.Rows L2 LamX
section
variable {X : Cx}
end
section
variable {X : Cx}
end
/-- the dict is the function f, on numbers -/
def FnD (kvs : List (Key × V)) (f : Nat → Option Nat) : Prop := (∀ p ∈ kvs, ∃ q n : Nat, p = (.inl (q : Int), .int (n : Int))) ∧ ∀ q : Nat, valV kvs (.inl (q : Int)) = (f q).map fun n => V.int (n : Int)
theorem FnD.put {kvs : List (Key × V)} {f : Nat → Option Nat} (h : FnD kvs f) (q n : Nat) : FnD (putK kvs (.inl (q : Int)) (.int (n : Int))) (setF f q n) := by
  refine ⟨fun p hp => ?_, fun j => ?_⟩
  · unfold putK at hp
    split at hp
    · obtain ⟨p', h1, rfl⟩ := List.mem_map.mp hp
      obtain ⟨a, b, e⟩ := h.1 p' h1
      subst e
      by_cases c : (Sum.inl (a : Int) : Key) = .inl (q : Int)
      · rw [if_pos c]; exact ⟨a, n, rfl⟩
      · rw [if_neg c]; exact ⟨a, b, rfl⟩
    · rcases List.mem_append.mp hp with z | z
      · exact h.1 p z
      · rw [List.mem_singleton.mp z]; exact ⟨q, n, rfl⟩
  · rw [valV_put, h.2 j]
    unfold setF
    by_cases c : j = q
    · subst c; rw [if_pos rfl, if_pos rfl]; rfl
    · rw [if_neg c, if_neg]
      intro z
      injection z with z
      omega
theorem FnD.get {kvs : List (Key × V)} {f : Nat → Option Nat} (h : FnD kvs f) {q n : Nat} (e : f q = some n) : valV kvs (.inl (q : Int)) = some (.int (n : Int)) := by rw [h.2, e]; rfl
theorem FnD.isS {kvs : List (Key × V)} {f : Nat → Option Nat} (h : FnD kvs f) (q : Nat) : (valV kvs (.inl (q : Int))).isSome = (f q).isSome := by rw [h.2]; cases f q <;> rfl
/-- the keys that are there -/
theorem FnD.mem {kvs : List (Key × V)} {f : Nat → Option Nat} (h : FnD kvs f) {i : Nat} {p : Key × V} (hp : kvs[i]? = some p) : ∃ q n, p.1 = .inl ((q : Nat) : Int) ∧ f q = some n := by
  obtain ⟨q, n, e⟩ := h.1 p (List.mem_of_getElem? hp)
  have : (valV kvs (.inl (q : Int))).isSome = true := by
    rw [← valV_any, List.any_eq_true]
    exact ⟨p, List.mem_of_getElem? hp, by rw [e]; exact decide_eq_true rfl⟩
  rw [h.isS] at this
  obtain ⟨m, hm⟩ := Option.isSome_iff_exists.mp this
  exact ⟨q, m, by rw [e], hm⟩
theorem FnD.ex {kvs : List (Key × V)} {f : Nat → Option Nat} (h : FnD kvs f) {q n : Nat} (e : f q = some n) : ∃ (i : Nat) (v : V), kvs[i]? = some (.inl (q : Int), v) := by
  have : (valV kvs (.inl (q : Int))).isSome = true := by rw [h.isS, e]; rfl
  rw [← valV_any, List.any_eq_true] at this
  obtain ⟨p, hp, c⟩ := this
  obtain ⟨i, hi⟩ := List.mem_iff_getElem?.mp hp
  have c := of_decide_eq_true c
  exact ⟨i, p.2, by rw [hi, ← c]⟩
end LA

set_option maxHeartbeats 1000000
namespace LA
open PySem L2 LamX
end LA

set_option maxHeartbeats 1000000
namespace LA
open PySem L2 LamX
theorem putK_nodup {kvs : List (Key × V)} (h : (kvs.map (·.1)).Nodup) (k : Key) (v : V) : ((putK kvs k v).map (·.1)).Nodup := by
  unfold putK
  split
  · have e : (kvs.map fun kv => if kv.1 = k then (kv.1, v) else kv).map (·.1) = kvs.map (·.1) := by
      rw [List.map_map]
      refine List.map_congr_left fun x _ => ?_
      show (if x.1 = k then (x.1, v) else x).1 = x.1
      split <;> rfl
    rw [e]; exact h
  · rename_i c
    rw [List.map_append, List.nodup_append]
    refine ⟨h, by simp, fun a ha b hb e => c ?_⟩
    obtain ⟨x, hx, rfl⟩ := List.mem_map.mp ha
    have hb : b = k := by simpa using hb
    rw [List.any_eq_true]
    exact ⟨x, hx, decide_eq_true (e.trans hb)⟩
/-- a dict from places to lengths -/
structure LnD (N : Nat) (kvs : List (Key × V)) (ln : Nat → Option Nat) : Prop where
  fn : FnD kvs ln
  nd : (kvs.map (·.1)).Nodup
  lt : ∀ q n, ln q = some n → q < N
def keyN (p : Key × V) : Nat := match p.1 with
  | .inl i => i.toNat
  | .inr _ => 0
theorem LnD.len {N : Nat} {kvs : List (Key × V)} {ln : Nat → Option Nat} (h : LnD N kvs ln) : kvs.length ≤ N := by
  have nd : (kvs.map keyN).Nodup := by
    have := h.nd
    rw [List.nodup_iff_pairwise_ne, List.pairwise_map] at this ⊢
    refine this.imp_of_mem fun {a b} ha hb hne e => hne ?_
    obtain ⟨q, n, rfl⟩ := h.fn.1 a ha
    obtain ⟨q', n', rfl⟩ := h.fn.1 b hb
    have e : (q : Int).toNat = (q' : Int).toNat := e
    have : q = q' := by omega
    rw [this]
  have := nodup_lenD _ (List.range N) nd fun k hk => by
    obtain ⟨p, hp, rfl⟩ := List.mem_map.mp hk
    obtain ⟨i, hi⟩ := List.mem_iff_getElem?.mp hp
    obtain ⟨q, n, e1, e2⟩ := h.fn.mem hi
    have e : keyN p = q := by unfold keyN; rw [e1]; show ((q : Int)).toNat = q; omega
    rw [e]
    exact List.mem_range.mpr (h.lt q n e2)
  rwa [List.length_map, List.length_range] at this
theorem LnD.put {N : Nat} {kvs : List (Key × V)} {ln : Nat → Option Nat} (h : LnD N kvs ln) {q n : Nat} (hq : q < N) : LnD N (putK kvs (.inl (q : Int)) (.int (n : Int))) (setF ln q n) :=
  ⟨h.fn.put q n, putK_nodup h.nd _ _, fun p m e => by
    unfold setF at e
    by_cases c : p = q
    · rw [c]; exact hq
    · rw [if_neg c] at e; exact h.lt p m e⟩
end LA

set_option maxHeartbeats 1000000
namespace LA
open PySem L2 LamX
/-- the places of the long relations, ascending -/
noncomputable def lgB (st : List (List Nat)) (q : Nat) : Bool := @decide (LongP st q) (Classical.propDecidable _)
theorem lgB_iff {st : List (List Nat)} {q : Nat} : lgB st q = true ↔ LongP st q := by unfold lgB; exact @decide_eq_true_iff _ (Classical.propDecidable _)
noncomputable def lgP (st : List (List Nat)) : List Nat := (List.range st.length).filter (lgB st)
theorem mem_lgP {st : List (List Nat)} {q : Nat} : q ∈ lgP st ↔ q < st.length ∧ LongP st q := by
  unfold lgP
  rw [List.mem_filter, List.mem_range, lgB_iff]
end LA

set_option maxHeartbeats 1000000
namespace LA
open PySem L2 LamX
inductive RchR (j : Jd) (nx : Nat) (q : Rel) : Rel → Prop
  | refl : RchR j nx q q
  | step {r : Rel} {x : Nat} : RchR j nx q r → x < nx → RchR j nx q (compR r (relL j x))
section
variable {j : Jd} {nx : Nat}
structure FndB (j : Jd) (nx : Nat) (qs bs Wl : List Rel) : Prop where
  nd : bs.Nodup
  rl : ∀ r, r ∈ bs ∨ r ∈ Wl → ∃ q ∈ qs, RchR j nx q r
  st : ∀ q ∈ qs, q ∈ bs ∨ q ∈ Wl
  cl : ∀ r ∈ bs, ∀ x, x < nx → compR r (relL j x) ∈ bs ∨ compR r (relL j x) ∈ Wl
variable {qs bs Wl : List Rel}
theorem FndB.start : FndB j nx qs [] qs := ⟨List.nodup_nil, fun r h => h.elim (fun z => by cases z) fun z => ⟨r, z, .refl⟩, fun q h => .inr h, nofun⟩
theorem FndB.old {r : Rel} (h : FndB j nx qs bs (Wl ++ [r])) (hr : r ∈ bs) : FndB j nx qs bs Wl := by
  have key : ∀ q, q ∈ bs ∨ q ∈ Wl ++ [r] → q ∈ bs ∨ q ∈ Wl := fun q z => z.elim .inl fun z => (List.mem_append.mp z).elim .inr fun z => .inl (by rw [List.mem_singleton.mp z]; exact hr)
  exact ⟨h.nd, fun q hq => h.rl q (hq.imp id (List.mem_append_left _)), fun q hq => key _ (h.st q hq), fun q hq x hx => key _ (h.cl q hq x hx)⟩
theorem FndB.new {r : Rel} (h : FndB j nx qs bs (Wl ++ [r])) (hr : r ∉ bs) : FndB j nx qs (bs ++ [r]) (Wl ++ (List.range nx).map fun x => compR r (relL j x)) := by
  have key : ∀ q, q ∈ bs ∨ q ∈ Wl ++ [r] → q ∈ bs ++ [r] ∨ q ∈ Wl ++ (List.range nx).map fun x => compR r (relL j x) := fun q z => by
    rcases z with z | z
    · exact .inl (List.mem_append_left _ z)
    · rcases List.mem_append.mp z with z | z
      · exact .inr (List.mem_append_left _ z)
      · exact .inl (List.mem_append_right _ z)
  refine ⟨?_, fun q hq => ?_, fun q hq => key _ (h.st q hq), fun q hq x hx => ?_⟩
  · rw [List.nodup_append]
    exact ⟨h.nd, by simp, fun a ha b hb => by rw [List.mem_singleton.mp hb]; exact fun e => hr (e ▸ ha)⟩
  · rcases hq with hq | hq
    · rcases List.mem_append.mp hq with z | z
      · exact h.rl q (.inl z)
      · rw [List.mem_singleton.mp z]; exact h.rl r (.inr (by simp))
    · rcases List.mem_append.mp hq with z | z
      · exact h.rl q (.inr (List.mem_append_left _ z))
      · obtain ⟨x, hx, rfl⟩ := List.mem_map.mp z
        obtain ⟨q, h1, h2⟩ := h.rl r (.inr (by simp))
        exact ⟨q, h1, h2.step (List.mem_range.mp hx)⟩
  · rcases List.mem_append.mp hq with z | z
    · exact key _ (h.cl q z x hx)
    · rw [List.mem_singleton.mp z]
      exact .inr (List.mem_append_right _ (List.mem_map.mpr ⟨x, List.mem_range.mpr hx, rfl⟩))
theorem FndB.all (h : FndB j nx qs bs []) (r : Rel) : r ∈ bs ↔ ∃ q ∈ qs, RchR j nx q r := by
  refine ⟨fun z => h.rl r (.inl z), ?_⟩
  rintro ⟨q, hq, hr⟩
  induction hr with
  | refl => exact (h.st q hq).elim id fun z => by cases z
  | @step r x _ hx ih => exact (h.cl r ih x hx).elim id fun z => by cases z
end
end LA

set_option maxHeartbeats 1000000
namespace LA
open PySem L2 LamX
end LA
namespace LA
open PySem L2 LamX
theorem Bd.tl {n s e : Nat} {ds : List PyData} (h : Bd n s e (.tuple ds)) : Bd n s e (.list ds) :=
  ⟨by have := h.ib; simpa only [IB] using this, by have := h.sz; simpa only [szD] using this, by have := h.dp; simpa only [PyData.depth] using this⟩
end LA
namespace LA
open PySem L2 LamX
end LA
namespace LA
open PySem PySem.Spec PyProof.Rows L2
end LA
namespace LA
open PySem L2
end LA

set_option maxHeartbeats 1000000
namespace LA
open PySem PySem.Spec PyProof.Rows L2 LamX
end LA

set_option maxHeartbeats 1000000
namespace LA
open PySem L2 LamX
/-- the most letters of a word that has no long relation -/
def IsBl (j : Jd) (nx m : Nat) : Prop := (m = 0 ∨ ∃ r, LwR j nx r m) ∧ ∀ r n, LwR j nx r n → n ≤ m
theorem IsBl.uniq {j : Jd} {nx a b : Nat} (h : IsBl j nx a) (k : IsBl j nx b) : a = b := by
  have key : ∀ {a b : Nat}, IsBl j nx a → IsBl j nx b → a ≤ b := fun {a b} h k => by
    rcases h.1 with e | ⟨r, hr⟩
    · omega
    · exact k.2 r a hr
  exact Nat.le_antisymm (key h k) (key k h)
/-- lengths are below the number of relations -/
theorem LwR.le {j : Jd} {nx n : Nat} {r : Rel} {rs : List Rel} (ha : AllR j nx rs) (h : LwR j nx r n) : n ≤ rs.length := by
  obtain ⟨⟨w, h1, h2, h3, h4⟩, h5⟩ := h
  rcases Nat.lt_or_ge rs.length n with c | c
  · have hl := long_len (fun q hq => (ha.mem q).mpr hq) h3 (show rs.length < w.length by omega)
    obtain ⟨u, a1, a2, a3, a4⟩ := hl (n + 1)
    have := h5 u a1 a3 (a4.trans h4)
    omega
  · exact c
end LA

set_option maxHeartbeats 1000000
namespace LA
open PySem L2 LamX
theorem short_bound (st : List (List Nat)) : ∀ k, ∃ B, ∀ u, u < k → ¬ LongP st u → ∀ m, Wk st u m → m < B
  | 0 => ⟨0, fun u h => absurd h (by omega)⟩
  | k + 1 => by
    obtain ⟨B, hB⟩ := short_bound st k
    by_cases c : LongP st k
    · refine ⟨B, fun u hu hn m hm => ?_⟩
      rcases Nat.lt_or_ge u k with z | z
      · exact hB u z hn m hm
      · have : u = k := by omega
        subst this
        exact absurd c hn
    · have : ∃ n, ∀ m, Wk st k m → m < n := by
        refine Classical.byContradiction fun z => c fun n => ?_
        refine Classical.byContradiction fun y => z ⟨n, fun m hm => ?_⟩
        rcases Nat.lt_or_ge m n with x | x
        · exact x
        · exact absurd ⟨m, x, hm⟩ y
      obtain ⟨n, hn⟩ := this
      refine ⟨max B n, fun u hu hu2 m hm => ?_⟩
      rcases Nat.lt_or_ge u k with z | z
      · have := hB u z hu2 m hm; omega
      · have : u = k := by omega
        subst this
        have := hn m hm; omega
theorem edg_lt {st : List (List Nat)} {u v : Nat} (h : Edg st u v) : u < st.length := by
  obtain ⟨row, e, _⟩ := h
  exact (List.getElem?_eq_some_iff.mp e).1
theorem long_pred {st : List (List Nat)} {q : Nat} (h : LongP st q) : ∃ u, Edg st u q ∧ LongP st u := by
  obtain ⟨B, hB⟩ := short_bound st st.length
  obtain ⟨m, hm, w⟩ := h (B + 1)
  cases w with
  | zero => omega
  | @step u _ n w e =>
    refine ⟨u, e, Classical.byContradiction fun c => ?_⟩
    have := hB u (edg_lt e) c n w
    omega
/-- what leads from long places: (where to, from where, by which letter) -/
def rowL (h : Nat) (row : List Nat) (k : Nat) : List (Nat × Nat × Nat) := (List.range k).map fun x => (row.getD x 0, h, x)
noncomputable def bkL (st : List (List Nat)) (i : Nat) : List (Nat × Nat × Nat) := ((lgP st).take i).flatMap fun h => rowL h (st.getD h []) (st.getD h []).length
def bkF (l : List (Nat × Nat × Nat)) (q : Nat) : Option (Nat × Nat) := (l.find? fun e => decide (e.1 = q)).map (·.2)
theorem bkF_app (l : List (Nat × Nat × Nat)) (e : Nat × Nat × Nat) (q : Nat) : bkF (l ++ [e]) q = match bkF l q with
    | some r => some r
    | none => if e.1 = q then some e.2 else none := by
  unfold bkF
  rw [List.find?_append]
  cases l.find? fun e => decide (e.1 = q) with
  | some r => rfl
  | none =>
    by_cases c : e.1 = q
    · simp [c]
    · simp [c]
noncomputable def bkA (st : List (List Nat)) : Nat → Option (Nat × Nat) := bkF (bkL st (lgP st).length)
theorem getD_get {l : List Nat} {x : Nat} (h : x < l.length) : l[x]? = some (l.getD x 0) := by
  rw [List.getD_eq_getElem?_getD, List.getElem?_eq_getElem h]; rfl
theorem bk_mem {st : List (List Nat)} {q h x : Nat} (e : (q, h, x) ∈ bkL st (lgP st).length) : LongP st h ∧ h < st.length ∧ (st.getD h [])[x]? = some q := by
  unfold bkL at e
  rw [List.take_length, List.mem_flatMap] at e
  obtain ⟨h', h1, h2⟩ := e
  unfold rowL at h2
  obtain ⟨x', h3, h4⟩ := List.mem_map.mp h2
  cases h4
  obtain ⟨a, b⟩ := mem_lgP.mp h1
  refine ⟨b, a, ?_⟩
  exact getD_get (List.mem_range.mp h3)
theorem bk_some {st : List (List Nat)} {q : Nat} (hq : LongP st q) : ∃ h x, bkA st q = some (h, x) ∧ LongP st h ∧ h < st.length ∧ (st.getD h [])[x]? = some q := by
  obtain ⟨u, e, hu⟩ := long_pred hq
  have ul := edg_lt e
  obtain ⟨row, e1, e2⟩ := e
  obtain ⟨y, hy⟩ := List.mem_iff_getElem?.mp e2
  have hyl := (List.getElem?_eq_some_iff.mp hy).1
  have eg : st.getD u [] = row := by rw [List.getD_eq_getElem?_getD, e1]; rfl
  have hin : (q, u, y) ∈ bkL st (lgP st).length := by
    unfold bkL
    rw [List.take_length, List.mem_flatMap]
    refine ⟨u, mem_lgP.mpr ⟨ul, hu⟩, ?_⟩
    rw [eg]
    refine List.mem_map.mpr ⟨y, List.mem_range.mpr hyl, ?_⟩
    rw [List.getD_eq_getElem?_getD, hy]; rfl
  unfold bkA bkF
  cases hf : (bkL st (lgP st).length).find? fun e => decide (e.1 = q) with
  | none =>
    rw [List.find?_eq_none] at hf
    exact absurd (hf _ hin) (by simp)
  | some r =>
    obtain ⟨q', h, x⟩ := r
    have e3 := List.find?_some hf
    have e3 : q' = q := of_decide_eq_true e3
    subst e3
    exact ⟨h, x, rfl, bk_mem (List.mem_of_find?_eq_some hf)⟩
noncomputable def seqB (st : List (List Nat)) (p : Nat) : Nat → Nat
  | 0 => p
  | i + 1 => ((bkA st (seqB st p i)).getD (0, 0)).1
noncomputable def ltB (st : List (List Nat)) (p i : Nat) : Nat := ((bkA st (seqB st p i)).getD (0, 0)).2
theorem seqB_long {st : List (List Nat)} {p : Nat} (h : LongP st p) (hp : p < st.length) : ∀ i, LongP st (seqB st p i) ∧ seqB st p i < st.length
  | 0 => ⟨h, hp⟩
  | i + 1 => by
    obtain ⟨a, x, e, b, c, _⟩ := bk_some (seqB_long h hp i).1
    unfold seqB
    rw [e]
    exact ⟨b, c⟩
theorem seqB_bk {st : List (List Nat)} {p : Nat} (h : LongP st p) (hp : p < st.length) (i : Nat) : bkA st (seqB st p i) = some (seqB st p (i + 1), ltB st p i) ∧ (st.getD (seqB st p (i + 1)) [])[ltB st p i]? = some (seqB st p i) := by
  obtain ⟨a, x, e, b, c, d⟩ := bk_some (seqB_long h hp i).1
  have e1 : seqB st p (i + 1) = a := by
    show ((bkA st (seqB st p i)).getD (0, 0)).1 = a
    rw [e]; rfl
  have e2 : ltB st p i = x := by unfold ltB; rw [e]; rfl
  rw [e1, e2]
  exact ⟨e, d⟩
noncomputable def metF (st : List (List Nat)) (p i q : Nat) : Option Nat := (List.range i).find? fun k => decide (seqB st p k = q)
/-- the places before the i-th are all different -/
def DisB (st : List (List Nat)) (p i : Nat) : Prop := ∀ a b, a < b → b < i → seqB st p a ≠ seqB st p b
theorem metF_none {st : List (List Nat)} {p i q : Nat} (h : metF st p i q = none) : ∀ k, k < i → seqB st p k ≠ q := fun k hk e => by
  unfold metF at h
  rw [List.find?_eq_none] at h
  exact absurd (decide_eq_true e) (by simpa using h k (List.mem_range.mpr hk))
theorem DisB.next {st : List (List Nat)} {p i : Nat} (h : DisB st p i) (hn : metF st p i (seqB st p i) = none) : DisB st p (i + 1) := fun a b hab hb => by
  rcases Nat.lt_or_ge b i with c | c
  · exact h a b hab c
  · have : b = i := by omega
    subst this
    exact metF_none hn a hab
theorem DisB.le {st : List (List Nat)} {p i : Nat} (h : DisB st p i) (hl : LongP st p) (hp : p < st.length) : i ≤ st.length := by
  have nd : ((List.range i).map (seqB st p)).Nodup := by
    rw [List.nodup_iff_pairwise_ne, List.pairwise_map, List.pairwise_iff_getElem]
    intro a b ha hb hab
    rw [List.getElem_range, List.getElem_range]
    exact h a b hab (by rw [List.length_range] at hb; exact hb)
  have := nodup_lenD _ (List.range st.length) nd fun q hq => by
    obtain ⟨k, _, rfl⟩ := List.mem_map.mp hq
    exact List.mem_range.mpr (seqB_long hl hp k).2
  rwa [List.length_map, List.length_range, List.length_range] at this
/-- the loop that is found -/
def LpIs (ws st : List (List Nat)) (p : Nat) (u v w : List Nat) : Prop := ∃ t s, s < t ∧ seqB st p s = seqB st p t ∧ DisB st p t ∧ t ≤ st.length ∧ ws[seqB st p t]? = some u ∧ v = (((List.range t).map (ltB st p)).drop s).reverse ∧ w = (((List.range t).map (ltB st p)).take s).reverse
theorem LpIs.uniq {ws st : List (List Nat)} {p : Nat} {u v w u' v' w' : List Nat} (h : LpIs ws st p u v w) (k : LpIs ws st p u' v' w') : u = u' ∧ v = v' ∧ w = w' := by
  obtain ⟨t, s, h1, h2, h3, _, h4, rfl, rfl⟩ := h
  obtain ⟨t', s', k1, k2, k3, _, k4, rfl, rfl⟩ := k
  have et : t = t' := by
    rcases Nat.lt_trichotomy t t' with c | c | c
    · exact absurd h2 (k3 s t h1 c)
    · exact c
    · exact absurd k2 (h3 s' t' k1 c)
  subst et
  have es : s = s' := by
    rcases Nat.lt_trichotomy s s' with c | c | c
    · exact absurd (h2.trans k2.symm) (h3 s s' c k1)
    · exact c
    · exact absurd (k2.trans h2.symm) (h3 s' s c h1)
  subst es
  rw [h4] at k4
  exact ⟨Option.some.inj k4, rfl, rfl⟩
theorem GrM.one {j : Jd} {nx : Nat} {ws st ws' st' : List (List Nat)} {og og' : List (Nat × Nat)} (g : GrM j nx ws st og) (g' : GrM j nx ws' st' og') : ws = ws' ∧ st = st' := by
  have ew : ws = ws' := by
    have key : ∀ (a b : List (List Nat)), a.Pairwise (fun u w => valW nx u < valW nx w) → b.Pairwise (fun u w => valW nx u < valW nx w) → (∀ w, w ∈ a ↔ w ∈ b) → a = b := by
      intro a
      induction a with
      | nil =>
        intro b _ _ h
        cases b with
        | nil => rfl
        | cons y b => exact absurd ((h y).mpr List.mem_cons_self) (by simp)
      | cons x a ih =>
        intro b ha hb h
        cases b with
        | nil => exact absurd ((h x).mp List.mem_cons_self) (by simp)
        | cons y b =>
          obtain ⟨a1, a2⟩ := List.pairwise_cons.mp ha
          obtain ⟨b1, b2⟩ := List.pairwise_cons.mp hb
          have exy : x = y := by
            rcases List.mem_cons.mp ((h x).mp List.mem_cons_self) with e | e
            · exact e
            · rcases List.mem_cons.mp ((h y).mpr List.mem_cons_self) with e2 | e2
              · exact e2.symm
              · have h1 := b1 x e
                have h2 := a1 y e2
                omega
          subst exy
          rw [ih b a2 b2 fun w => ?_]
          constructor
          · intro hw
            rcases List.mem_cons.mp ((h w).mp (List.mem_cons_of_mem _ hw)) with e | e
            · subst e
              have := a1 w hw; omega
            · exact e
          · intro hw
            rcases List.mem_cons.mp ((h w).mpr (List.mem_cons_of_mem _ hw)) with e | e
            · subst e
              have := b1 w hw; omega
            · exact e
    refine key ws ws' g.e.inc g'.e.inc fun w => ?_
    rcases Classical.em (w = []) with e | e
    · subst e
      exact ⟨fun _ => List.mem_of_getElem? g'.zero, fun _ => List.mem_of_getElem? g.zero⟩
    · rw [g.e.mem w e, g'.e.mem w e]
  subst ew
  refine ⟨rfl, List.ext_getElem? fun i => ?_⟩
  rcases Nat.lt_or_ge i ws.length with c | c
  · have e1 : st[i]? = some (st[i]'(by rw [g.sl]; exact c)) := List.getElem?_eq_getElem _
    have e2 : st'[i]? = some (st'[i]'(by rw [g'.sl]; exact c)) := List.getElem?_eq_getElem _
    have hu : ws[i]? = some ws[i] := List.getElem?_eq_getElem c
    obtain ⟨l1, o1⟩ := g.st i _ _ hu e1
    obtain ⟨l2, o2⟩ := g'.st i _ _ hu e2
    rw [e1, e2]
    congr 1
    refine List.ext_getElem? fun x => ?_
    rcases Nat.lt_or_ge x nx with d | d
    · have f1 := List.getElem?_eq_getElem (l := st[i]'(by rw [g.sl]; exact c)) (i := x) (by omega)
      have f2 := List.getElem?_eq_getElem (l := st'[i]'(by rw [g'.sl]; exact c)) (i := x) (by omega)
      obtain ⟨w1, a1, a2, a3⟩ := o1 x _ f1
      obtain ⟨w2, b1, b2, b3⟩ := o2 x _ f2
      rw [f1, f2, g.uniq a1 b1 a2 b2 (a3.trans b3.symm)]
    · rw [List.getElem?_eq_none (by omega), List.getElem?_eq_none (by omega)]
  · rw [List.getElem?_eq_none (by rw [g.sl]; exact c), List.getElem?_eq_none (by rw [g'.sl]; exact c)]
/-- the loop for a relation -/
def LoopR (j : Jd) (nx : Nat) (r : Rel) (u v w : List Nat) : Prop := ∃ (ws st : List (List Nat)) (og : List (Nat × Nat)) (p : Nat) (u0 : List Nat), GrM j nx ws st og ∧ ws[p]? = some u0 ∧ u0 ≠ [] ∧ relW j u0 = r ∧ LpIs ws st p u v w
theorem LoopR.uniq {j : Jd} {nx : Nat} {r : Rel} {u v w u' v' w' : List Nat} (h : LoopR j nx r u v w) (k : LoopR j nx r u' v' w') : u = u' ∧ v = v' ∧ w = w' := by
  obtain ⟨ws, st, og, p, u0, g, h1, h2, h3, h4⟩ := h
  obtain ⟨ws', st', og', p', u0', g', k1, k2, k3, k4⟩ := k
  obtain ⟨rfl, rfl⟩ := g.one g'
  have := g.uniq h1 k1 h2 k2 (h3.trans k3.symm)
  subst this
  exact h4.uniq k4
end LA
namespace LA
open PySem PySem.Spec PyProof.Rows L2
end LA

set_option maxHeartbeats 1000000
namespace LA
open PySem L2 LamX
def exF (j : Jd) (nx : Nat) (r : Rel) : Nat → List Nat → Bool
  | 0, w => decide (relW j w = r)
  | k + 1, w => (List.range nx).any fun x => exF j nx r k (w ++ [x])
section
variable {j : Jd} {nx : Nat} {r : Rel}
end
end LA
namespace LA
open PySem L2
end LA

set_option maxHeartbeats 1000000
namespace LA
open PySem L2 LamX
end LA
namespace LA
open PySem L2 LamX
end LA
namespace LA
open PySem L2
end LA

set_option maxHeartbeats 4000000
namespace LA
open PySem PySem.Spec PyProof.Rows L2
end LA

set_option maxHeartbeats 1000000
namespace LA
open PySem L2 LamX
def gX (j : Jd) (nx : Nat) (r : Rel) : Nat → Rel → Bool
  | 0, q => decide (q = r)
  | k + 1, q => (List.range nx).any fun x => gX j nx r k (compR q (relL j x))
theorem gX_exF {j : Jd} {nx : Nat} {r : Rel} : ∀ (k : Nat) (w : List Nat), gX j nx r k (relW j w) = exF j nx r k w
  | 0, _ => rfl
  | k + 1, w => by
    unfold gX exF
    rw [Bool.eq_iff_iff, List.any_eq_true, List.any_eq_true]
    have e : ∀ x, gX j nx r k (compR (relW j w) (relL j x)) = exF j nx r k (w ++ [x]) := fun x => by rw [comp_letter, gX_exF k]
    simp only [e]
/-- a dict of the relations that lead on in k letters -/
def LdAt (K : PySem.W.Frag) (P : Program) (w : World) (H : Hp) (j : Jd) (nx : Nat) (r : Rel) (rs : List Rel) (v : V) (k : Nat) : Prop := ∃ (a : Addr) (L : List DnE) (ep : Nat) (qs : List Rel), v = .ref a ∧ H a = some (DictN P w a L ep) ∧ KeysN K H L ∧ L.map (·.1) = qs.map rK ∧ qs.length ≤ rs.length ∧ ∀ q ∈ rs, q ∈ qs ↔ gX j nx r k q = true
theorem LdAt.s {K : PySem.W.Frag} {P : Program} {w : World} {H H' : Hp} {j : Jd} {nx : Nat} {r : Rel} {rs : List Rel} {v : V} {k : Nat} (h : LdAt K P w H j nx r rs v k) (S : Same H H') : LdAt K P w H' j nx r rs v k := by
  obtain ⟨a, L, ep, qs, e1, e2, e3, e4, e5, e6⟩ := h
  exact ⟨a, L, ep, qs, e1, S _ _ e2, e3.t (Same.t S), e4, e5, e6⟩
end LA

set_option maxHeartbeats 1000000
namespace LA
open PySem L2 LamX
end LA

set_option maxHeartbeats 1000000
namespace LA
open PySem L2 LamX
end LA

set_option maxHeartbeats 1000000
namespace LA
open PySem L2 LamX
theorem LdAt.n {K : PySem.W.Frag} {P : Program} {w : World} {H H' : Hp} {j : Jd} {nx : Nat} {r : Rel} {rs : List Rel} {v : V} {k : Nat} (h : LdAt K P w H j nx r rs v k) (N : ExtN H H') : LdAt K P w H' j nx r rs v k := by
  obtain ⟨a, L, ep, qs, e1, e2, e3, e4, e5, e6⟩ := h
  exact ⟨a, L, ep, qs, e1, ext_dict N e2, e3.t N.t, e4, e5, e6⟩
/-- what stays in the walk along a great word -/
structure W27 (K : PySem.W.Frag) (P : Program) (w : World) (H : Hp) (jv : V) (g ra q : Addr) (j : Jd) (nx : Nat) (r : Rel) (L : List DnE) (ep : Nat) (rs : List Rel) (las : List V) (n : Nat) : Prop where
  J : JAt K H jv j
  R : RAt K H (.ref ra) r
  hd : H g = some (DictN P w g L ep)
  hk : KeysN K H L
  hv : ∀ l ∈ L, GrV K H j nx l
  hq : H q = some (.lst las)
  hp : Paired (LdAt K P w H j nx r rs) las (List.range (n + 1))
section
variable {K : PySem.W.Frag} {P : Program} {w : World} {H H' : Hp} {jv : V} {g ra q : Addr} {j : Jd} {nx n : Nat} {r : Rel} {L : List DnE} {ep : Nat} {rs : List Rel} {las : List V}
theorem W27.n' (h : W27 K P w H jv g ra q j nx r L ep rs las n) (N : ExtN H H') : W27 K P w H' jv g ra q j nx r L ep rs las n :=
  ⟨h.J.t N.t, h.R.t N.t, ext_dict N h.hd, h.hk.t N.t, fun l hl => (h.hv l hl).t N.t (fun _ _ _ e => N _ _ e (fun ps z => by cases z)), N _ _ h.hq (fun ps z => by cases z), paired_map h.hp fun _ _ z => z.n N⟩
theorem W27.s (h : W27 K P w H jv g ra q j nx r L ep rs las n) (S : Same H H') : W27 K P w H' jv g ra q j nx r L ep rs las n := h.n' (ExtN.of S)
/-- the dict for so many letters more -/
theorem W27.at (h : W27 K P w H jv g ra q j nx r L ep rs las n) {k : Nat} (hk : k ≤ n) : ∃ lv, las[k]? = some lv ∧ LdAt K P w H j nx r rs lv k := by
  have hl := paired_len h.hp
  rw [List.length_range] at hl
  have e : las[k]? = some (las[k]'(by omega)) := List.getElem?_eq_getElem _
  obtain ⟨kk, hkk, z⟩ := paired_at h.hp e
  rw [List.getElem?_range (by omega)] at hkk
  cases hkk
  exact ⟨_, e, z⟩
end
/-- whether a relation leads on, by the dict -/
theorem LdAt.has {K : PySem.W.Frag} {P : Program} {w : World} {H : Hp} {j : Jd} {nx : Nat} {r : Rel} {rs : List Rel} {v : V} {k : Nat} (h : LdAt K P w H j nx r rs v k) : ∃ (a : Addr) (L : List DnE) (ep : Nat), v = .ref a ∧ H a = some (DictN P w a L ep) ∧ KeysN K H L ∧ ∀ u : List Nat, relW j u ∈ rs → (atN L (rK (relW j u))).isSome = exF j nx r k u := by
  obtain ⟨a, L, ep, qs, e1, e2, e3, e4, e5, e6⟩ := h
  refine ⟨a, L, ep, e1, e2, e3, fun u hu => ?_⟩
  rw [at_keys e4, Bool.eq_iff_iff, decide_eq_true_iff, e6 _ hu, gX_exF]
end LA
namespace LA
open PySem L2 LamX
end LA
namespace LA
open PySem L2
theorem hu2 {a b : Addr} {x y : Str} (h : a ≠ b) : ∀ p ∈ [(a, x), (b, y)], p.1 = a → p.2 = x := fun p hp e => by
  rcases List.mem_cons.mp hp with z | z
  · rw [z]
  · rw [List.mem_singleton.mp z] at e
    exact absurd e.symm h
end LA

set_option maxHeartbeats 4000000
namespace LA
open PySem L2
section
variable {j : Jd} {nx ny k : Nat} {t : List Row3}
end
end LA
namespace LA
open PySem L2
end LA

set_option maxHeartbeats 4000000
namespace LA
open PySem L2
section
variable {j : Jd} {nx ny k : Nat} {t : List Row3}
end
end LA
namespace LA
open PySem L2
theorem cut_toA (xs : List V) (k : Nat) : cutV xs none (some (k : Int)) = xs.take k := by
  rcases Nat.lt_or_ge xs.length k with h | h
  · unfold cutV HT.sIx
    simp
    rw [if_neg (by omega)]
    omega
  · exact cut_to h
theorem cut_fromA (xs : List V) (k : Nat) : cutV xs (some (k : Int)) none = xs.drop k := by
  rcases Nat.lt_or_ge xs.length k with h | h
  · rw [List.drop_of_length_le (by omega)]
    unfold cutV HT.sIx
    simp
    rw [if_neg (by omega)]
    omega
  · exact cut_from h
end LA
namespace LA
open PySem L2
end LA

set_option maxHeartbeats 1000000
namespace LA
open PySem L2 LamX
structure KyD (N : Nat) (kvs : List (Key × V)) : Prop where
  nd : (kvs.map (·.1)).Nodup
  lt : ∀ p ∈ kvs, ∃ q : Nat, p.1 = .inl (q : Int) ∧ q < N
theorem KyD.len {N : Nat} {kvs : List (Key × V)} (h : KyD N kvs) : kvs.length ≤ N := by
  have nd : (kvs.map keyN).Nodup := by
    have := h.nd
    rw [List.nodup_iff_pairwise_ne, List.pairwise_map] at this ⊢
    refine this.imp_of_mem fun {a b} ha hb hne e => hne ?_
    obtain ⟨q, e1, _⟩ := h.lt a ha
    obtain ⟨q', e2, _⟩ := h.lt b hb
    have e3 : keyN a = q := by unfold keyN; rw [e1]; show ((q : Int)).toNat = q; omega
    have e4 : keyN b = q' := by unfold keyN; rw [e2]; show ((q' : Int)).toNat = q'; omega
    rw [e1, e2, ← e3, ← e4, e]
  have := nodup_lenD _ (List.range N) nd fun k hk => by
    obtain ⟨p, hp, rfl⟩ := List.mem_map.mp hk
    obtain ⟨q, e1, hq⟩ := h.lt p hp
    have e3 : keyN p = q := by unfold keyN; rw [e1]; show ((q : Int)).toNat = q; omega
    rw [e3]; exact List.mem_range.mpr hq
  rwa [List.length_map, List.length_range] at this
theorem KyD.put {N : Nat} {kvs : List (Key × V)} (h : KyD N kvs) {q : Nat} (hq : q < N) (v : V) : KyD N (putK kvs (.inl (q : Int)) v) :=
  ⟨putK_nodup h.nd _ _, fun p hp => by
    unfold putK at hp
    split at hp
    · obtain ⟨p', h1, rfl⟩ := List.mem_map.mp hp
      obtain ⟨a, e, ha⟩ := h.lt p' h1
      by_cases c : p'.1 = .inl (q : Int)
      · rw [if_pos c]; exact ⟨a, e, ha⟩
      · rw [if_neg c]; exact ⟨a, e, ha⟩
    · rcases List.mem_append.mp hp with z | z
      · exact h.lt p z
      · rw [List.mem_singleton.mp z]; exact ⟨q, rfl, hq⟩⟩
theorem KyD.nil {N : Nat} : KyD N [] := ⟨by simp, nofun⟩
structure BkD (K : PySem.W.Frag) (H : Hp) (N : Nat) (kvs : List (Key × V)) (f : Nat → Option (Nat × Nat)) : Prop where
  ky : KyD N kvs
  no : ∀ q : Nat, f q = none → valV kvs (.inl (q : Int)) = none
  so : ∀ (q h x : Nat), f q = some (h, x) → ∃ t, valV kvs (.inl (q : Int)) = some (.ref t) ∧ SqT K H t [nV h, nV x]
theorem BkD.t {K : PySem.W.Frag} {H H' : Hp} {N : Nat} {kvs : List (Key × V)} {f : Nat → Option (Nat × Nat)} (h : BkD K H N kvs f) (s : SameT H H') : BkD K H' N kvs f :=
  ⟨h.ky, h.no, fun q a x e => let ⟨t, e1, e2⟩ := h.so q a x e; ⟨t, e1, s.seq e2⟩⟩
theorem BkD.isS {K : PySem.W.Frag} {H : Hp} {N : Nat} {kvs : List (Key × V)} {f : Nat → Option (Nat × Nat)} (h : BkD K H N kvs f) (q : Nat) : (valV kvs (.inl (q : Int))).isSome = (f q).isSome := by
  cases e : f q with
  | none => rw [h.no q e]; rfl
  | some r =>
    obtain ⟨t, e1, _⟩ := h.so q r.1 r.2 e
    rw [e1]; rfl
theorem BkD.put {K : PySem.W.Frag} {H : Hp} {N : Nat} {kvs : List (Key × V)} {l : List (Nat × Nat × Nat)} (h : BkD K H N kvs (bkF l)) {q a x : Nat} {t : Addr} (hq : q < N) (hn : bkF l q = none) (ht : SqT K H t [nV a, nV x]) : BkD K H N (putK kvs (.inl (q : Int)) (.ref t)) (bkF (l ++ [(q, a, x)])) := by
  refine ⟨h.ky.put hq _, fun p hp => ?_, fun p b y hp => ?_⟩
  · rw [bkF_app] at hp
    rw [valV_put]
    by_cases c : p = q
    · subst c
      rw [hn] at hp
      simp at hp
    · rw [if_neg (fun z => by injection z with z; omega)]
      refine h.no p ?_
      cases e : bkF l p with
      | none => rfl
      | some r => rw [e] at hp; cases hp
  · rw [bkF_app] at hp
    rw [valV_put]
    by_cases c : p = q
    · subst c
      rw [hn] at hp
      simp at hp
      obtain ⟨rfl, rfl⟩ := hp
      exact ⟨t, by rw [if_pos rfl], ht⟩
    · rw [if_neg (fun z => by injection z with z; omega)]
      refine h.so p b y ?_
      cases e : bkF l p with
      | none =>
        rw [e] at hp
        have hp : (if q = p then some (a, x) else none) = some (b, y) := hp
        rw [if_neg (fun z => c z.symm)] at hp
        cases hp
      | some r => rw [e] at hp; exact hp
theorem BkD.old {K : PySem.W.Frag} {H : Hp} {N : Nat} {kvs : List (Key × V)} {l : List (Nat × Nat × Nat)} (h : BkD K H N kvs (bkF l)) {q a x : Nat} {r : Nat × Nat} (hn : bkF l q = some r) : BkD K H N kvs (bkF (l ++ [(q, a, x)])) := by
  have e : bkF (l ++ [(q, a, x)]) = bkF l := by
    funext p
    rw [bkF_app]
    by_cases c : p = q
    · subst c; rw [hn]
    · cases e : bkF l p with
      | some r => rfl
      | none => exact if_neg (fun z => c z.symm)
  rw [e]; exact h
/-- a loop as a value -/
def LpAt (K : PySem.W.Frag) (H : Hp) (v : V) (a b c : List Nat) : Prop := ∃ (t : Addr) (x y z : V), v = .ref t ∧ SqT K H t [x, y, z] ∧ WordAt K H x a ∧ WordAt K H y b ∧ WordAt K H z c
theorem LpAt.t {K : PySem.W.Frag} {H H' : Hp} {v : V} {a b c : List Nat} (h : LpAt K H v a b c) (s : SameT H H') : LpAt K H' v a b c :=
  let ⟨t, x, y, z, e, h1, h2, h3, h4⟩ := h; ⟨t, x, y, z, e, s.seq h1, h2.t s, h3.t s, h4.t s⟩
end LA

set_option maxHeartbeats 1000000
namespace LA
open PySem L2 LamX
/-- a word of a loop -/
def lwB (nx : Nat) (d : PyData) : Bool := isLet nx d && decide ((parts d).length ≤ 2000)
def spLoopWd (K : PySem.W.Frag) : Sp := fun vs H Q _ => ∃ (p : Addr) (Z : Addr → Prop) (jv v : V) (d : PyData) (j : Jd) (nx ny : Nat), vs = [jv, v] ∧ JAt K H jv j ∧ IsJ j nx ny ∧ Dq K p Z H v d ∧ szD d ≤ 100000 ∧ ∀ H', Same H H' → Q (.bl (lwB nx d)) H'
/-- a loop for some relation -/
def lpB (j : Jd) (nx : Nat) : PyData → Bool
  | .tuple [a, b, c] => lwB nx a && lwB nx b && lwB nx c && !decide ((parts b).map natD = []) && decide (relW j ((parts a).map natD) = relW j ((parts a).map natD ++ (parts b).map natD))
  | _ => false
def spIsLoop (K : PySem.W.Frag) : Sp := fun vs H Q _ => ∃ (p : Addr) (Z : Addr → Prop) (jv v : V) (d : PyData) (j : Jd) (nx ny : Nat), vs = [jv, v] ∧ JAt K H jv j ∧ IsJ j nx ny ∧ Dq K p Z H v d ∧ szD d ≤ 100000 ∧ ∀ H', Same H H' → Q (.bl (lpB j nx d)) H'
/-- the relation of the word around -/
def lpR (j : Jd) : PyData → Rel
  | .tuple [a, _, c] => relW j ((parts a).map natD ++ (parts c).map natD)
  | _ => []
def spLpRel (K : PySem.W.Frag) : Sp := fun vs H Q _ => ∃ (p : Addr) (Z : Addr → Prop) (jv v : V) (d : PyData) (j : Jd) (nx ny : Nat), vs = [jv, v] ∧ JAt K H jv j ∧ IsJ j nx ny ∧ Dq K p Z H v d ∧ szD d ≤ 100000 ∧ lpB j nx d = true ∧ ∀ (H' : Hp) (u : V), Same H H' → RAt K H' u (lpR j d) → Q u H'
theorem lwB_word {K : PySem.W.Frag} {p : Addr} {Z : Addr → Prop} {H : Hp} {n : Nat} {v : V} {d : PyData} (h : Dq K p Z H v d) (a : lwB n d = true) (hz : szD d ≤ 100000) : WordAt K H v ((parts d).map natD) ∧ Word n ((parts d).map natD) ∧ ((parts d).map natD).length ≤ 2000 := by
  unfold lwB at a
  rw [Bool.and_eq_true] at a
  obtain ⟨h1, h2⟩ := let_word h a.1 hz
  refine ⟨h1, h2, ?_⟩
  rw [List.length_map]; exact of_decide_eq_true a.2
theorem tl3 {K : PySem.W.Frag} {p : Addr} {Z : Addr → Prop} {H : Hp} {v : V} {d : PyData} (h : Dq K p Z H v d) (hl : isTL 3 d = true) : ∃ (a : Addr) (x y z : V) (dx dy dz : PyData), v = .ref a ∧ d = .tuple [dx, dy, dz] ∧ SqT K H a [x, y, z] ∧ Dq K p Z H x dx ∧ Dq K p Z H y dy ∧ Dq K p Z H z dz := by
  rcases nonTup h with e | ⟨a, xs, ds, rfl, rfl, hT, hA⟩
  · have : isTL 3 d = false := by cases d <;> first | rfl | cases e
    rw [this] at hl; cases hl
  · have h3 : ds.length = 3 := by simpa [isTL] using hl
    match ds, h3 with
    | [dx, dy, dz], _ =>
      cases hA with
      | cons h1 hA =>
        cases hA with
        | cons h2 hA =>
          cases hA with
          | cons h4 hA =>
            cases hA
            exact ⟨a, _, _, _, dx, dy, dz, rfl, rfl, hT, h1, h2, h4⟩
theorem tl3_sz {dx dy dz : PyData} {n : Nat} (h : szD (.tuple [dx, dy, dz]) ≤ n) : szD dx ≤ n ∧ szD dy ≤ n ∧ szD dz ≤ n := by
  simp only [szD, szAll] at h
  omega
theorem cat_words {K : PySem.W.Frag} {H : Hp} {x y : V} {u v : List Nat} {Q : VK} (hx : WordAt K H x u) (hy : WordAt K H y v) (hl : u.length + v.length ≤ 1000000) (q : ∀ (H' : Hp) (z : V), Same H H' → WordAt K H' z (u ++ v) → Q z H') : rCatA K x y H Q := by
  obtain ⟨a, rfl, ha⟩ := hx
  obtain ⟨b, rfl, hb⟩ := hy
  refine ⟨a, b, _, _, rfl, rfl, ha, hb, ?_, fun e => ?_, fun e1 e2 => ?_, fun _ _ p hp => ?_⟩
  · rw [List.length_map, List.length_map]
    exact Nat.le_trans hl (by decide)
  · have e : u = [] := List.map_eq_nil_iff.mp e
    subst e
    exact q H _ (Same.refl H) ⟨b, rfl, hb⟩
  · have e : v = [] := List.map_eq_nil_iff.mp e2
    subst e
    exact q H _ (Same.refl H) ⟨a, rfl, by rw [List.append_nil]; exact ha⟩
  · exact q _ _ (sm hp) ⟨p, rfl, SqT.of (by rw [upd_same, List.map_append])⟩
theorem lpB_eq (j : Jd) (nx : Nat) (a b c : PyData) : lpB j nx (.tuple [a, b, c]) = (lwB nx a && lwB nx b && lwB nx c && !decide ((parts b).map natD = []) && decide (relW j ((parts a).map natD) = relW j ((parts a).map natD ++ (parts b).map natD))) := rfl
theorem Word.app {nx : Nat} {u v : List Nat} (hu : Word nx u) (hv : Word nx v) (h : u.length + v.length ≤ 100000) : Word nx (u ++ v) :=
  ⟨by rw [List.length_append]; exact h, fun x hx => (List.mem_append.mp hx).elim (hu.2 x) (hv.2 x)⟩
end LA

set_option maxHeartbeats 1000000
namespace LA
open PySem L2 LamX
noncomputable def wB (ws st : List (List Nat)) (p i : Nat) : List Nat := ws.getD (seqB st p i) []
section
variable {j : Jd} {nx : Nat} {ws st : List (List Nat)} {og : List (Nat × Nat)} {p : Nat}
theorem wB_get (g : GrM j nx ws st og) (hl : LongP st p) (hp : p < st.length) (i : Nat) : ws[seqB st p i]? = some (wB ws st p i) := by
  have h := (seqB_long hl hp i).2
  rw [g.sl] at h
  unfold wB
  rw [List.getD_eq_getElem?_getD, List.getElem?_eq_getElem h]; rfl
theorem wB_step (g : GrM j nx ws st og) (hl : LongP st p) (hp : p < st.length) (i : Nat) : ltB st p i < nx ∧ relW j (wB ws st p (i + 1) ++ [ltB st p i]) = relW j (wB ws st p i) := by
  have e := (seqB_bk hl hp i).2
  have h1 := (seqB_long hl hp (i + 1)).2
  have hrow : st[seqB st p (i + 1)]? = some (st.getD (seqB st p (i + 1)) []) := by
    rw [List.getD_eq_getElem?_getD, List.getElem?_eq_getElem h1]; rfl
  obtain ⟨l1, o1⟩ := g.st _ _ _ (wB_get g hl hp (i + 1)) hrow
  obtain ⟨w1, a1, a2, a3⟩ := o1 _ _ e
  have hx := (List.getElem?_eq_some_iff.mp e).1
  rw [wB_get g hl hp i] at a1
  cases a1
  exact ⟨by omega, a3.symm⟩
theorem wB_path (g : GrM j nx ws st og) (hl : LongP st p) (hp : p < st.length) : ∀ d s, relW j (wB ws st p (s + d) ++ ((List.range' s d).map (ltB st p)).reverse) = relW j (wB ws st p s)
  | 0, s => by simp
  | d + 1, s => by
    rw [List.range'_succ, List.map_cons, List.reverse_cons, ← List.append_assoc]
    have ih := wB_path g hl hp d (s + 1)
    rw [show s + 1 + d = s + (d + 1) from by omega] at ih
    rw [rel_snoc ih]
    exact (wB_step g hl hp s).2
theorem wB_ov (g : GrM j nx ws st og) (hl : LongP st p) (hp : p < st.length) (s d : Nat) : OvW nx ((List.range' s d).map (ltB st p)).reverse := fun x hx => by
  obtain ⟨i, _, rfl⟩ := List.mem_map.mp (List.mem_reverse.mp hx)
  exact (wB_step g hl hp i).1
theorem LpIs.ok {a b c : List Nat} (g : GrM j nx ws st og) (hl : LongP st p) (hp : p < st.length) (h : LpIs ws st p a b c) : ∃ u0, ws[p]? = some u0 ∧ a ∈ ws ∧ a ≠ [] ∧ b ≠ [] ∧ OvW nx b ∧ OvW nx c ∧ relW j (a ++ b) = relW j a ∧ relW j (a ++ c) = relW j u0 ∧ b.length ≤ st.length ∧ c.length ≤ st.length := by
  obtain ⟨t, s, h1, h2, _, h3, h4, rfl, rfl⟩ := h
  have ed : ((List.range t).map (ltB st p)).drop s = (List.range' s (t - s)).map (ltB st p) := by
    rw [← List.map_drop, List.range_eq_range', List.drop_range']
    simp
  have et : ((List.range t).map (ltB st p)).take s = (List.range' 0 s).map (ltB st p) := by
    rw [← List.map_take, List.take_range, Nat.min_eq_left (by omega), List.range_eq_range']
  have ea : a = wB ws st p t := by
    have := wB_get g hl hp t
    rw [h4] at this
    exact Option.some.inj this
  have es : wB ws st p s = wB ws st p t := by unfold wB; rw [h2]
  have e0 : wB ws st p 0 = ws.getD p [] := rfl
  rw [ed, et, ea]
  have p1 := wB_path g hl hp (t - s) s
  rw [show s + (t - s) = t from by omega, es] at p1
  have p2 := wB_path g hl hp s 0
  rw [Nat.zero_add, es] at p2
  refine ⟨wB ws st p 0, wB_get g hl hp 0, List.mem_of_getElem? (wB_get g hl hp t), fun z => ?_, fun z => ?_, wB_ov g hl hp _ _, wB_ov g hl hp _ _, p1, p2, ?_, ?_⟩
  · have hg := wB_get g hl hp t
    rw [z] at hg
    have := g.idx hg g.zero
    have hL := (seqB_long hl hp t).1
    rw [this] at hL
    exact long_zero g hL
  · have := congrArg List.length z
    rw [List.length_reverse, List.length_map, List.length_range', List.length_nil] at this
    omega
  · rw [List.length_reverse, List.length_map, List.length_range']; omega
  · rw [List.length_reverse, List.length_map, List.length_range']; omega
end
theorem val_mono {nx : Nat} (h0 : 0 < nx) : ∀ (t u v : List Nat), valW nx u < valW nx v → valW nx (u ++ t) < valW nx (v ++ t)
  | [], u, v, h => by rw [List.append_nil, List.append_nil]; exact h
  | x :: t, u, v, h => by
    have h2 : valW nx (u ++ [x]) < valW nx (v ++ [x]) := by
      rw [val_snoc, val_snoc]
      have := Nat.mul_lt_mul_of_pos_right h h0
      omega
    have := val_mono h0 t _ _ h2
    simpa using this
theorem val_app_lt {nx : Nat} (h0 : 0 < nx) : ∀ (v a : List Nat), v ≠ [] → valW nx a < valW nx (a ++ v)
  | [], _, h => absurd rfl h
  | [x], a, _ => val_lt_snoc h0 a x
  | x :: y :: v, a, _ => by
    have h1 := val_lt_snoc h0 a x
    have h2 := val_app_lt h0 (y :: v) (a ++ [x]) (by simp)
    rw [List.append_assoc] at h2
    exact Nat.lt_trans h1 h2
theorem lst_len {j : Jd} {nx : Nat} {rs : List Rel} (ha : AllR j nx rs) {u : List Nat} (h : Lst j nx u) : u.length ≤ rs.length := by
  rcases Nat.lt_or_ge rs.length u.length with c | c
  · obtain ⟨a, v, t, rfl, h1, h2, h3⟩ := circle (fun r hr => (ha.mem r).mpr hr) h.2.1 c
    have o : OvW nx (a ++ t) := ovw_mono h.2.1 fun x hx => by
      rcases List.mem_append.mp hx with z | z
      · simp [z]
      · simp [z]
    have := h.2.2 (a ++ t) (by simp [h1]) o (rel_app h3 t).symm
    have lt : valW nx (a ++ t) < valW nx (a ++ v ++ t) := by
      have h0 : 0 < nx := by
        cases v with
        | nil => exact absurd rfl h2
        | cons y v =>
          have := h.2.1 y (by simp)
          omega
      exact val_mono h0 t _ _ (val_app_lt h0 v a h2)
    omega
  · exact c
structure LoopF (j : Jd) (nx : Nat) (r : Rel) (n : Nat) (a b c : List Nat) : Prop where
  na : a ≠ []
  nb : b ≠ []
  oa : OvW nx a
  ob : OvW nx b
  oc : OvW nx c
  ro : relW j (a ++ b) = relW j a
  rr : relW j (a ++ c) = r
  la : a.length ≤ n
  lb : b.length ≤ n + 1
  lc : c.length ≤ n + 1
theorem LoopR.ok {j : Jd} {nx : Nat} {r : Rel} {a b c : List Nat} {rs : List Rel} (ha : AllR j nx rs) (h : LoopR j nx r a b c) (hl : LongR j nx r) : LoopF j nx r rs.length a b c := by
  obtain ⟨ws, st, og, p, u0, g, h1, h2, h3, h4⟩ := h
  have hp : p < st.length := by rw [g.sl]; exact (List.getElem?_eq_some_iff.mp h1).1
  have hL : LongP st p := (long_iff g h1 h2).mpr (by rw [h3]; exact hl)
  obtain ⟨u1, k1, k2, k3, k4, k5, k6, k7, k8, k9, k10⟩ := h4.ok g hL hp
  rw [h1] at k1
  cases k1
  have hlst := (g.e.mem a k3).mp k2
  have hlen : st.length ≤ rs.length + 1 := by
    have e1 := g.all.1.nd
    have e2 := nodup_lenD _ rs e1 fun q hq => (ha.mem q).mpr ((g.all.1.mem q).mp hq)
    rw [List.length_tail, List.length_map] at e2
    have := g.sl
    omega
  exact ⟨k3, k4, hlst.2.1, k5, k6, k7, k8.trans h3, lst_len ha hlst, by omega, by omega⟩
end LA

set_option maxHeartbeats 1000000
namespace LA
open PySem L2 LamX
section
variable {j : Jd} {nx : Nat} {rs : List Rel}
end
end LA

set_option maxHeartbeats 1000000
namespace LA
open PySem L2 LamX
def lpD (a b c : List Nat) : PyData := .tuple [wD a, wD b, wD c]
theorem LpAt.dq {K : PySem.W.Frag} {H : Hp} {p : Addr} {Z : Addr → Prop} {v : V} {a b c : List Nat} (h : LpAt K H v a b c) : Dq K p Z H v (lpD a b c) := by
  obtain ⟨t, x, y, z, rfl, h1, h2, h3, h4⟩ := h
  exact .tup h1 (.cons h2.dq (.cons h3.dq (.cons h4.dq .nil)))
/-- what stays in k31's right def -/
structure W31 (K : PySem.W.Frag) (H : Hp) (jv mv lv wv : V) (j : Jd) (r q : Rel) (u : List Nat) : Prop where
  J : JAt K H jv j
  R : RAt K H mv r
  Q : RAt K H lv q
  w : WordAt K H wv u
theorem W31.s {K : PySem.W.Frag} {H H' : Hp} {jv mv lv wv : V} {j : Jd} {r q : Rel} {u : List Nat} (h : W31 K H jv mv lv wv j r q u) (s : Same H H') : W31 K H' jv mv lv wv j r q u :=
  ⟨h.J.t (Same.t s), h.R.t (Same.t s), h.Q.t (Same.t s), h.w.t (Same.t s)⟩
mutual
def noL : PyData → Bool
  | .list _ => false
  | .dict _ => false
  | .tuple ds => noLAll ds
  | _ => true
def noLAll : List PyData → Bool
  | [] => true
  | d :: ds => noL d && noLAll ds
end
section
variable {K : PySem.W.Frag} {p p' : Addr} {Z Z' : Addr → Prop} {H H' : Hp}
mutual
theorem Dq.re (t : SameT H H') : ∀ (d : PyData) (v : V), noL d = true → Dq K p Z H v d → Dq K p' Z' H' v d
  | .none, _, _, h => by cases h; exact .non
  | .bool b, _, _, h => by cases h; exact .bl b
  | .int i, _, _, h => by cases h; exact .int i
  | .str x, _, _, h => by cases h; exact .str x
  | .list ds, _, e, _ => by simp [noL] at e
  | .tuple ds, _, e, h => by
    cases h with
    | tup hs ha => exact .tup (t.seq hs) (DqAll.re t ds _ (by simpa [noL] using e) ha)
  | .dict kvs, _, e, _ => by simp [noL] at e
theorem DqAll.re (t : SameT H H') : ∀ (ds : List PyData) (vs : List V), noLAll ds = true → DqAll K p Z H vs ds → DqAll K p' Z' H' vs ds
  | [], _, _, h => by cases h; exact .nil
  | d :: ds, _, e, h => by
    rw [noLAll, Bool.and_eq_true] at e
    cases h with
    | cons h1 h2 => exact .cons (Dq.re t d _ e.1 h1) (DqAll.re t ds _ e.2 h2)
end
end
theorem noL_nats : ∀ w : List Nat, noLAll (w.map nD) = true
  | [] => rfl
  | x :: w => by rw [List.map_cons, noLAll, noL_nats w]; rfl
theorem noL_wD (w : List Nat) : noL (wD w) = true := noL_nats w
theorem noL_lpD (a b c : List Nat) : noL (lpD a b c) = true := by
  show noLAll [wD a, wD b, wD c] = true
  simp only [noLAll, noL_wD]; rfl
end LA

set_option maxHeartbeats 1000000
namespace LA
open PySem L2
def entJ (j : Jd) (s x y : Nat) : Option (Option Nat) := (j[s]?.bind fun sd => sd[x]?).bind fun r => r[y]?
theorem entJ_at {j : Jd} {s x y : Nat} {sd : Sd} {r : Rw} (h1 : j[s]? = some sd) (h2 : sd[x]? = some r) : entJ j s x y = r[y]? := by
  unfold entJ; rw [h1]; show (sd[x]?).bind _ = _; rw [h2]; rfl
theorem jd_extU {j1 j2 : Jd} {nx ny : Nat} (h1 : IsJ j1 nx ny) (h2 : IsJ j2 nx ny) (hl : j1.length = j2.length) (h : ∀ s x y, s < j1.length → x < nx → y < ny → entJ j1 s x y = entJ j2 s x y) : j1 = j2 := by
  refine List.ext_getElem hl fun s a b => ?_
  have m1 := h1.st _ (List.getElem_mem a)
  have m2 := h2.st _ (List.getElem_mem b)
  refine List.ext_getElem (m1.1.trans m2.1.symm) fun x c d => ?_
  have r1 := m1.2 _ (List.getElem_mem c)
  have r2 := m2.2 _ (List.getElem_mem d)
  refine List.ext_getElem (r1.1.trans r2.1.symm) fun y e f => ?_
  have := h s x y a (by have := m1.1; omega) (by have := r1.1; omega)
  rw [entJ_at (List.getElem?_eq_getElem a) (List.getElem?_eq_getElem c), entJ_at (List.getElem?_eq_getElem b) (List.getElem?_eq_getElem d), List.getElem?_eq_getElem e, List.getElem?_eq_getElem f] at this
  exact Option.some.inj this
/-- a sequence of all numbers below n -/
def SeqN (n : Nat) (os : List Nat) : Prop := os.Perm (List.range n)
section
variable {n : Nat} {os : List Nat}
theorem SeqN.len (h : SeqN n os) : os.length = n := by rw [List.Perm.length_eq h, List.length_range]
theorem SeqN.at (h : SeqN n os) {s : Nat} (hs : s < n) : os[s]? = some (os.getD s 0) := by
  have hl := h.len
  rw [List.getD_eq_getElem?_getD, List.getElem?_eq_getElem (by omega)]; rfl
theorem SeqN.lt (h : SeqN n os) {s : Nat} (hs : s < n) : os.getD s 0 < n := List.mem_range.mp ((List.Perm.mem_iff h).mp (List.mem_of_getElem? (h.at hs)))
theorem SeqN.nd (h : SeqN n os) : os.Nodup := (List.Perm.nodup_iff h).mpr List.nodup_range
theorem SeqN.inj (h : SeqN n os) {s t : Nat} (hs : s < n) (ht : t < n) (e : os.getD s 0 = os.getD t 0) : s = t := by
  have hl := h.len
  have a := h.at hs
  have b := h.at ht
  rw [← e] at b
  obtain ⟨i1, e1⟩ := List.getElem?_eq_some_iff.mp a
  obtain ⟨i2, e2⟩ := List.getElem?_eq_some_iff.mp b
  exact (List.getElem_inj h.nd).mp (e1.trans e2.symm)
theorem SeqN.sur (h : SeqN n os) {t : Nat} (ht : t < n) : ∃ s, s < n ∧ os.getD s 0 = t := by
  obtain ⟨s, hs, e⟩ := List.getElem_of_mem ((List.Perm.mem_iff h).mpr (List.mem_range.mpr ht))
  refine ⟨s, by rw [← h.len]; exact hs, ?_⟩
  rw [List.getD_eq_getElem?_getD, List.getElem?_eq_getElem hs, e]; rfl
theorem SeqN.range (n : Nat) : SeqN n (List.range n) := List.Perm.refl _
/-- turned back -/
def backN (n : Nat) (os : List Nat) : List Nat := (List.range n).map fun t => os.idxOf t
theorem back_at (h : SeqN n os) {s : Nat} (hs : s < n) : (backN n os).getD (os.getD s 0) 0 = s := by
  have hl := h.len
  have e : (backN n os)[os.getD s 0]? = some (os.idxOf (os.getD s 0)) := by
    unfold backN
    rw [List.getElem?_map, List.getElem?_range (h.lt hs)]; rfl
  rw [List.getD_eq_getElem?_getD, e]
  show os.idxOf (os.getD s 0) = s
  have a := h.at hs
  obtain ⟨i1, e1⟩ := List.getElem?_eq_some_iff.mp a
  have hm : os.getD s 0 ∈ os := List.mem_of_getElem? a
  have lt := List.idxOf_lt_length_of_mem hm
  exact (List.getElem_inj h.nd (h₀ := lt) (h₁ := i1)).mp ((List.getElem_idxOf lt).trans e1.symm)
theorem back_seq (h : SeqN n os) : SeqN n (backN n os) := by
  have hl := h.len
  have lt : ∀ t ∈ backN n os, t < n := fun t ht => by
    obtain ⟨u, hu, rfl⟩ := List.mem_map.mp ht
    obtain ⟨s, hs, e⟩ := h.sur (List.mem_range.mp hu)
    have := back_at h hs
    have hm : u ∈ os := (List.Perm.mem_iff h).mpr hu
    have := List.idxOf_lt_length_of_mem hm
    omega
  have nd : (backN n os).Nodup := by
    unfold backN
    rw [List.nodup_iff_pairwise_ne, List.pairwise_map]
    refine (List.nodup_iff_pairwise_ne.mp (List.nodup_range (n := n))).imp_of_mem fun {a b} ha hb hne e => hne ?_
    have ma : a ∈ os := (List.Perm.mem_iff h).mpr ha
    have mb : b ∈ os := (List.Perm.mem_iff h).mpr hb
    have ea := List.getElem_idxOf (List.idxOf_lt_length_of_mem ma)
    have eb := List.getElem_idxOf (List.idxOf_lt_length_of_mem mb)
    rw [← ea, ← eb]
    congr 1
  have hlen : (backN n os).length = n := by unfold backN; rw [List.length_map, List.length_range]
  refine (List.perm_ext_iff_of_nodup nd List.nodup_range).mpr fun t => ⟨fun ht => List.mem_range.mpr (lt t ht), fun ht => ?_⟩
  have hs := List.mem_range.mp ht
  have e := back_at h hs
  have : (backN n os)[os.getD t 0]? = some t := by
    have hb : os.getD t 0 < (backN n os).length := by rw [hlen]; exact h.lt hs
    rw [List.getD_eq_getElem?_getD, List.getElem?_eq_getElem hb] at e
    rw [List.getElem?_eq_getElem hb]
    exact congrArg some e
  exact List.mem_of_getElem? this
theorem at_back (h : SeqN n os) {t : Nat} (ht : t < n) : os.getD ((backN n os).getD t 0) 0 = t := by
  obtain ⟨s, hs, rfl⟩ := h.sur ht
  rw [back_at h hs]
end
/-- j' is j with other numbers of states and letters -/
structure TurnR (j : Jd) (nx ny : Nat) (os xs ys : List Nat) (j' : Jd) : Prop where
  ij : IsJ j' nx ny
  n : j'.length = j.length
  e : ∀ s x y, s < j.length → x < nx → y < ny → entJ j' (os.getD s 0) (xs.getD x 0) (ys.getD y 0) = (entJ j s x y).map (Option.map fun t => os.getD t 0)
section
variable {j j1 j2 : Jd} {nx ny : Nat} {os xs ys : List Nat}
theorem TurnR.uniq (ho : SeqN j.length os) (hx : SeqN nx xs) (hy : SeqN ny ys) (h1 : TurnR j nx ny os xs ys j1) (h2 : TurnR j nx ny os xs ys j2) : j1 = j2 := by
  refine jd_extU h1.ij h2.ij (h1.n.trans h2.n.symm) fun s x y hs hx' hy' => ?_
  rw [h1.n] at hs
  obtain ⟨s0, a1, rfl⟩ := ho.sur hs
  obtain ⟨x0, b1, rfl⟩ := hx.sur hx'
  obtain ⟨y0, c1, rfl⟩ := hy.sur hy'
  rw [h1.e _ _ _ a1 b1 c1, h2.e _ _ _ a1 b1 c1]
theorem ent_ltU {j : Jd} (ij : IsJ j nx ny) {s x y t : Nat} (h : entJ j s x y = some (some t)) : t < j.length := by
  unfold entJ at h
  cases h1 : j[s]? with
  | none => rw [h1] at h; cases h
  | some sd =>
    rw [h1] at h
    cases h2 : sd[x]? with
    | none => rw [show (some sd).bind (fun sd => sd[x]?) = sd[x]? from rfl, h2] at h; cases h
    | some r =>
      rw [show (some sd).bind (fun sd => sd[x]?) = sd[x]? from rfl, h2] at h
      exact ((ij.st sd (List.mem_of_getElem? h1)).2 r (List.mem_of_getElem? h2)).2 t (List.mem_of_getElem? h)
theorem TurnR.back (ij : IsJ j nx ny) (ho : SeqN j.length os) (hx : SeqN nx xs) (hy : SeqN ny ys) (h : TurnR j nx ny os xs ys j1) : TurnR j1 nx ny (backN j.length os) (backN nx xs) (backN ny ys) j := by
  refine ⟨ij, h.n.symm, fun s x y hs hx' hy' => ?_⟩
  rw [h.n] at hs
  obtain ⟨s0, a1, rfl⟩ := ho.sur hs
  obtain ⟨x0, b1, rfl⟩ := hx.sur hx'
  obtain ⟨y0, c1, rfl⟩ := hy.sur hy'
  rw [h.e _ _ _ a1 b1 c1, back_at ho a1, back_at hx b1, back_at hy c1, Option.map_map]
  cases e : entJ j s0 x0 y0 with
  | none => rfl
  | some o =>
    cases o with
    | none => rfl
    | some t =>
      show some (some t) = some (some ((backN j.length os).getD (os.getD t 0) 0))
      rw [back_at ho (ent_ltU ij e)]
end
end LA

set_option maxHeartbeats 1000000
namespace LA
open PySem L2
/-- a sequence of numbers as a tuple without a dict -/
def WordD (H : Hp) (v : V) (w : List Nat) : Prop := ∃ a, v = .ref a ∧ TupD H a (w.map nV)
theorem WordD.at {K : PySem.W.Frag} {H : Hp} {v : V} {w : List Nat} (h : WordD H v w) : WordAt K H v w := let ⟨a, e, q⟩ := h; ⟨a, e, q.sq⟩
theorem TupD.s {H H' : Hp} {a : Addr} {ys : List V} (h : TupD H a ys) (s : Same H H') : TupD H' a ys := let ⟨o, e, d⟩ := h; ⟨o, s _ _ e, d⟩
theorem WordD.s {H H' : Hp} {v : V} {w : List Nat} (h : WordD H v w) (s : Same H H') : WordD H' v w := let ⟨a, e, q⟩ := h; ⟨a, e, q.s s⟩
theorem sqL_s {K : PySem.W.Frag} {H H' : Hp} {a : Addr} {xs : List V} (h : SqL K H a xs) (s : Same H H') : SqL K H' a xs :=
  h.imp (fun r => r.imp (fun e => s _ _ e) fun ⟨o, e⟩ => ⟨o, s _ _ e⟩) id
end LA

set_option maxHeartbeats 1000000
namespace LA
open PySem L2
end LA

set_option maxHeartbeats 1000000
namespace LA
open PySem L2
/-- just the reached states, ascending -/
structure RcL (j : Jd) (rs : List Nat) : Prop where
  asc : rs.Pairwise (· < ·)
  mem : ∀ t, t ∈ rs ↔ Rch j t
theorem RcL.uniq {j : Jd} {a b : List Nat} (h : RcL j a) (k : RcL j b) : a = b := nats_eq h.asc k.asc fun x => (h.mem x).trans (k.mem x).symm
theorem rch_lt {j : Jd} {nx ny : Nat} (ij : IsJ j nx ny) : ∀ (k t : Nat), Fr j k t → t < j.length
  | 0, t, h => by have : t = 0 := h; subst this; exact ij.n1
  | k + 1, t, h => by
    rcases h with h | ⟨s, hs, ht⟩
    · exact rch_lt ij k t h
    · have hsl := rch_lt ij k s hs
      unfold sucs at ht
      rw [List.getElem?_eq_getElem hsl] at ht
      simp only [Option.getD_some, List.mem_flatMap, List.mem_filterMap] at ht
      obtain ⟨r, hr, o, ho, e⟩ := ht
      have e : o = some t := e
      subst e
      exact ((ij.st _ (List.getElem_mem hsl)).2 r hr).2 t ho
section
variable {j : Jd} {nx ny : Nat} {rs : List Nat}
theorem RcL.lt (h : RcL j rs) (ij : IsJ j nx ny) {t : Nat} (ht : t ∈ rs) : t < j.length := let ⟨k, f⟩ := (h.mem t).mp ht; rch_lt ij k t f
theorem RcL.zero (h : RcL j rs) : 0 ∈ rs := (h.mem 0).mpr ⟨0, rfl⟩
theorem RcL.nd (h : RcL j rs) : rs.Nodup := List.nodup_iff_pairwise_ne.mpr (h.asc.imp fun z => Nat.ne_of_lt z)
theorem RcL.first (h : RcL j rs) : rs.idxOf 0 = 0 := by
  cases e : rs with
  | nil => have := h.zero; rw [e] at this; cases this
  | cons a l =>
    have h0 := h.zero
    have ha := h.asc
    rw [e] at h0 ha
    rcases List.mem_cons.mp h0 with z | z
    · subst z; simp
    · have := (List.pairwise_cons.mp ha).1 0 z
      omega
end
end LA

set_option maxHeartbeats 1000000
namespace LA
open PySem L2
/-- the entries that are put already -/
def Dn (j : Jd) (nx ny : Nat) (os xs ys : List Nat) (c : Nat → Nat → Rw) (p : Nat → Nat → Nat → Prop) : Prop := ∀ s x y, s < j.length → x < nx → y < ny → p s x y → (c (os.getD s 0) (xs.getD x 0))[ys.getD y 0]? = (entJ j s x y).map (Option.map fun t => os.getD t 0)
section
variable {j : Jd} {nx ny : Nat} {os xs ys : List Nat} {c : Nat → Nat → Rw} {p q : Nat → Nat → Nat → Prop}
theorem Dn.weak (h : Dn j nx ny os xs ys c p) (k : ∀ s x y, q s x y → p s x y) : Dn j nx ny os xs ys c q := fun s x y a b d e => h s x y a b d (k s x y e)
theorem Dn.put (h : Dn j nx ny os xs ys c p) (po : SeqN j.length os) (px : SeqN nx xs) (py : SeqN ny ys) {i x y : Nat} (hi : i < j.length) (hx : x < nx) (hy : y < ny) (ha : os.getD i 0 < j.length) (hb : xs.getD x 0 < nx) (hl : ∀ a b, a < j.length → b < nx → (c a b).length = ny) {o : Option Nat} (he : entJ j i x y = some o) :
    Dn j nx ny os xs ys (fun a b => if a = os.getD i 0 ∧ b = xs.getD x 0 then (c (os.getD i 0) (xs.getD x 0)).set (ys.getD y 0) (o.map fun t => os.getD t 0) else c a b) (fun s x' y' => p s x' y' ∨ (s = i ∧ x' = x ∧ y' = y)) := by
  intro s x' y' h1 h2 h3 h4
  show (if os.getD s 0 = os.getD i 0 ∧ xs.getD x' 0 = xs.getD x 0 then _ else _)[_]? = _
  by_cases e : os.getD s 0 = os.getD i 0 ∧ xs.getD x' 0 = xs.getD x 0
  · rw [if_pos e]
    obtain rfl := po.inj h1 hi e.1
    obtain rfl := px.inj h2 hx e.2
    by_cases ey : y' = y
    · subst ey
      rw [List.getElem?_set_self (by rw [hl _ _ ha hb]; exact py.lt h3), he]; rfl
    · rw [List.getElem?_set_ne (fun z => ey (py.inj h3 hy z.symm))]
      exact h _ _ _ h1 h2 h3 (h4.resolve_right fun z => ey z.2.2)
  · rw [if_neg e]
    refine h _ _ _ h1 h2 h3 (h4.resolve_right fun z => e ⟨by rw [z.1], by rw [z.2.1]⟩)
theorem turn_ok (ij : IsJ j nx ny) (po : SeqN j.length os) (px : SeqN nx xs) (py : SeqN ny ys) (ok : ∀ a b, a < j.length → b < nx → (c a b).length = ny ∧ ∀ m, some m ∈ c a b → m < j.length)
    (h : ∀ s x y, s < j.length → x < nx → y < ny → (c (os.getD s 0) (xs.getD x 0))[ys.getD y 0]? = (entJ j s x y).map (Option.map fun t => os.getD t 0)) : TurnR j nx ny os xs ys ((List.range j.length).map fun a => (List.range nx).map fun b => c a b) := by
  refine ⟨⟨by simpa using ij.n1, by simpa using ij.n8, ij.x1, ij.x4, ij.y1, ij.y4, fun s' hs' => ?_⟩, by simp, fun s x y hs hx hy => ?_⟩
  · simp only [List.mem_map, List.mem_range] at hs'
    obtain ⟨a, ha, rfl⟩ := hs'
    refine ⟨by simp, fun r hr => ?_⟩
    simp only [List.mem_map, List.mem_range] at hr
    obtain ⟨b, hb, rfl⟩ := hr
    obtain ⟨q1, q2⟩ := ok a b ha hb
    exact ⟨q1, by simpa using q2⟩
  · rw [entJ_at (sd := (List.range nx).map fun b => c (os.getD s 0) b) (r := c (os.getD s 0) (xs.getD x 0)) (at_range (po.lt hs)) (at_range (px.lt hx))]
    exact h s x y hs hx hy
end
def spTurnV (K : PySem.W.Frag) (bs bx : Bool) : Sp := fun vs H Q _ => ∃ (v : V) (ol xl yl : Addr) (j : Jd) (nx ny : Nat) (os xs ys : List Nat), vs = [v, .ref ol, .ref xl, .ref yl] ∧ JAt K H v j ∧ IsJ j nx ny ∧
  (if bs = true then SqT K H ol (os.map nV) else SqL K H ol (os.map nV)) ∧ (if bx = true then SqT K H xl (xs.map nV) else SqL K H xl (xs.map nV)) ∧ (if bx = true then SqT K H yl (ys.map nV) else SqL K H yl (ys.map nV)) ∧ SeqN j.length os ∧ SeqN nx xs ∧ SeqN ny ys ∧
  ∀ (H' : Hp) (v' : V) (j' : Jd), Same H H' → JAt K H' v' j' → TurnR j nx ny os xs ys j' → Q v' H'
end LA
namespace LA
open PySem L2
end LA

set_option maxHeartbeats 1000000
namespace LA
open PySem L2
def one0J : Jd := [[[some 0, some 0], [none, none]]]
def one1J : Jd := [[[none, some 0], [some 0, none]]]
/-- the judges, their letters and answers, their least look-aheads -/
def famJ : List (Jd × Nat × Nat × Option Nat) := [(furJ 2 1, 2, 2, some 1), (furJ 2 2, 2, 2, some 2), (furJ 3 1, 3, 3, some 1), (parJ 1, 2, 2, some 0), (parJ 2, 2, 2, some 1), (parJ 3, 2, 2, some 2), (parJ 4, 2, 2, some 3), (endJ, 3, 2, none), (one0J, 2, 2, none), (one1J, 2, 2, some 0)]
/-- a judge of the list, not turned yet -/
def PairF (K : PySem.W.Frag) (H : Hp) (v : V) : Prop := ∃ (t : Addr) (vj ls : V) (j : Jd) (nx ny : Nat), v = .ref t ∧ SqT K H t [vj, ls] ∧ JAt K H vj j ∧ IsJ j nx ny ∧ nx ≤ 3 ∧ ny ≤ 3 ∧ ∃ o, ls = oV o ∧ (j, nx, ny, o) ∈ famJ
theorem PairF.t {K : PySem.W.Frag} {H H' : Hp} {v : V} (h : PairF K H v) (s : SameT H H') : PairF K H' v := by
  obtain ⟨t, vj, ls, j, nx, ny, e, q, hj, r⟩ := h
  exact ⟨t, vj, ls, j, nx, ny, e, s.seq q, hj.t s, r⟩
/-- what a turned judge of a family is -/
structure FamX (b : Jd) (nx ny : Nat) (o : Option Nat) (os xs ys : List Nat) (j : Jd) : Prop where
  fam : (b, nx, ny, o) ∈ famJ
  ib : IsJ b nx ny
  ho : SeqN b.length os
  o0 : os.getD 0 0 = 0
  hx : SeqN nx xs
  hy : SeqN ny ys
  tr : TurnR b nx ny os xs ys j
def PairX (K : PySem.W.Frag) (H : Hp) (v : V) : Prop := ∃ (t : Addr) (vj : V) (j b : Jd) (nx ny : Nat) (o : Option Nat) (os xs ys : List Nat), v = .ref t ∧ SqT K H t [vj, oV o] ∧ JAt K H vj j ∧ FamX b nx ny o os xs ys j
theorem PairX.t {K : PySem.W.Frag} {H H' : Hp} {v : V} (h : PairX K H v) (s : SameT H H') : PairX K H' v := by
  obtain ⟨t, vj, j, b, nx, ny, o, os, xs, ys, e, q, hj, r⟩ := h
  exact ⟨t, vj, j, b, nx, ny, o, os, xs, ys, e, s.seq q, hj.t s, r⟩
theorem perm_nats {ms : List Int} {f : Nat → Nat} {n : Nat} (h : ms.Perm ((List.range n).map fun i => ((f i : Nat) : Int))) : ∃ ns : List Nat, ms = ns.map (fun x : Nat => (x : Int)) ∧ ns.Perm ((List.range n).map f) := by
  refine ⟨ms.map Int.toNat, ?_, ?_⟩
  · rw [List.map_map]
    have : ∀ x ∈ ms, x = ((fun x : Nat => (x : Int)) ∘ Int.toNat) x := fun x hx => by
      obtain ⟨i, _, rfl⟩ := List.mem_map.mp (h.mem_iff.mp hx)
      show ((f i : Nat) : Int) = ((((f i : Nat) : Int).toNat : Nat) : Int)
      rw [Int.toNat_natCast]
    conv => lhs; rw [← List.map_id ms]
    exact List.map_congr_left fun x hx => this x hx
  · have := h.map Int.toNat
    rw [List.map_map] at this
    exact this
theorem seq_rg {n : Nat} {ms : List Int} (h : ms.Perm ((List.range n).map fun i => ((i : Nat) : Int))) : ∃ ns : List Nat, ms.map V.int = ns.map nV ∧ SeqN n ns := by
  obtain ⟨ns, rfl, hp⟩ := perm_nats (f := fun i => i) h
  rw [List.map_id'] at hp
  exact ⟨ns, by rw [List.map_map]; rfl, hp⟩
theorem seq_rg1 {n : Nat} {ms : List Int} (hn : 1 ≤ n) (h : ms.Perm ((List.range (n - 1)).map fun i => 1 + ((i : Nat) : Int))) : ∃ ns : List Nat, (0 :: ms).map V.int = ns.map nV ∧ SeqN n ns ∧ ns.getD 0 0 = 0 := by
  have h' : ms.Perm ((List.range (n - 1)).map fun i => (((1 + i : Nat)) : Int)) := by
    refine h.trans (List.Perm.of_eq (List.map_congr_left fun i _ => by omega))
  obtain ⟨ns, rfl, hp⟩ := perm_nats (f := fun i => 1 + i) h'
  refine ⟨0 :: ns, by rw [List.map_cons, List.map_cons, List.map_map]; rfl, ?_, rfl⟩
  obtain ⟨m, rfl⟩ : ∃ m, n = m + 1 := ⟨n - 1, by omega⟩
  show (0 :: ns).Perm (List.range (m + 1))
  rw [List.range_succ_eq_map]
  refine (List.Perm.cons 0 hp).trans (List.Perm.of_eq ?_)
  congr 1
  exact List.map_congr_left fun i _ => by omega
theorem FamX.three {b : Jd} {nx ny : Nat} {o : Option Nat} {os xs ys : List Nat} {j : Jd} (h : FamX b nx ny o os xs ys j) : nx ≤ 3 ∧ ny ≤ 3 ∧ ∀ k, o = some k → k ≤ 3 := by
  have : ∀ q ∈ famJ, q.2.1 ≤ 3 ∧ q.2.2.1 ≤ 3 ∧ (q.2.2.2.getD 0) ≤ 3 := by decide +kernel
  have := this _ h.fam
  refine ⟨this.1, this.2.1, fun k e => ?_⟩
  subst e; exact this.2.2
theorem goNext {D : Ends} {σ : L2.St} {H : Hp} (h : D.nx σ H) : tNext D σ H := h
end LA

namespace LA
open PySem L2
def stX : Stmt → Expr
  | .Assign _ v _ => v
  | .AugAssign _ _ v _ => v
  | .Return (some v) _ => v
  | .Expr v _ => v
  | .For _ v _ _ _ => v
  | .While v _ _ _ => v
  | .If v _ _ _ => v
  | _ => noE
def exX (i : Nat) : Expr → Expr
  | .BoolOp _ vs _ => vs.getD i noE
  | .BinOp a _ b _ => [a, b].getD i noE
  | .UnaryOp _ a _ => a
  | .IfExp a b c _ => [a, b, c].getD i noE
  | .ListComp e gs _ _ => match i with
    | 0 => e
    | i + 1 => match gs with
      | [] => noE
      | g :: _ => (g.iter :: g.ifs).getD i noE
  | .Compare a _ bs _ => (a :: bs).getD i noE
  | .Call _ as _ _ => as.getD i noE
  | .Subscript a b _ => [a, b].getD i noE
  | .List es _ => es.getD i noE
  | .Tuple es _ _ => es.getD i noE
  | _ => noE
end LA

set_option maxHeartbeats 4000000
namespace LA
open PySem L2
open C8 (Cal pe_c)
def topS (i : Nat) : Stmt := PySem.Challenge.pw_leastahead_k56_certificates_by_hand.main.body.getD i (.Pass ⟨0, 0, 0, 0⟩)
end LA

namespace LA
open PySem L2
theorem prime_at (t : Int) : ∃ q : Int, atI [V.int 2147483647, .int 2147483629, .int 2147483587, .int 2147483579, .int 2147483563, .int 2147483549] (t % 6) = some (.int q) ∧ 0 < q ∧ q < 2147483648 := by
  obtain ⟨r, er, hr⟩ := mod_nat (a := t) (m := 6) (by decide)
  rw [er]
  have : r < 6 := by omega
  match r, this with
  | 0, _ => exact ⟨_, atI_nat (j := 0) rfl, by decide, by decide⟩
  | 1, _ => exact ⟨_, atI_nat (j := 1) rfl, by decide, by decide⟩
  | 2, _ => exact ⟨_, atI_nat (j := 2) rfl, by decide, by decide⟩
  | 3, _ => exact ⟨_, atI_nat (j := 3) rfl, by decide, by decide⟩
  | 4, _ => exact ⟨_, atI_nat (j := 4) rfl, by decide, by decide⟩
  | 5, _ => exact ⟨_, atI_nat (j := 5) rfl, by decide, by decide⟩
theorem sq_bd {t : Int} (h0 : 0 ≤ t) (h1 : t ≤ 1000000) : 0 ≤ 65537 * t * t ∧ 65537 * t * t ≤ 65537000000000000 := by
  have h2 : t * t ≤ 1000000 * 1000000 := Int.mul_le_mul h1 h1 h0 (by decide)
  have h3 : 0 ≤ t * t := Int.mul_nonneg h0 h0
  have e : 65537 * t * t = 65537 * (t * t) := Int.mul_assoc _ _ _
  omega
section
variable {P : Program} {w : World} {K : PySem.W.Frag} {mg : Str → Option Value} {base : Heap}
abbrev s_take : Stmt := topS 22
abbrev N_take : List Str := ["_law_pot_here", "_law_many", "_law_digit", "_law_turn", "_law_prime", "_law_mixed_here"]
theorem sc_take : FnScope N_take ["_law_pot_here", "_law_many"] (defScope s_take) := ⟨rfl, rfl, rfl, by decide +kernel, rfl, by decide +kernel, by decide +kernel⟩
theorem ok_take {f : Addr} {fd : FuncData} (F : Fun K "_law_take" "_law_take" s_take f fd) : FnOk P w K mg base CX0 1 f fd ["_law_pot_here", "_law_many"] spTake := by
  refine F.ok sc_take (fun vs H Q E h => ?_) (fun cdv A outer s H vs Q E hr h => ?_)
  · obtain ⟨p, m, n, rfl, _⟩ := h
    rfl
  · obtain ⟨p, m, n, rfl, hm0, hm1, hP, hn, k⟩ := h
    obtain ⟨a, b, c, hp, ha, hb, hb2, hc, hc2⟩ := hP
    refine ⟨_, (pss_cons (ps_if (pt_cmpR op_gt (pe_ix (ixLK K) (pv 0) pe_int (fun _ _ => rfl)) pe_int (nomark _))
(pss_cons (ps_set (i := 2) sc_take.nd rfl (Or.inl rfl) (pe_op op_mod (pe_ix (ixLK K) (pv 0) pe_int (fun _ _ => rfl)) (pv 1)))
(pss_cons (ps_asg (pe_op op_fdiv (pe_ix (ixLK K) (pv 0) pe_int (fun _ _ => rfl)) (pv 1)) (pg_sub (pv 0) pe_int set_list))
(pss_one (ps_ret (pv 2)))))
pss_nil)
(pss_cons (ps_asg (pe_op op_add (pe_ix (ixLK K) (pv 0) pe_int (fun _ _ => rfl)) pe_int) (pg_sub (pv 0) pe_int set_list))
(pss_cons (ps_set (i := 3) sc_take.nd rfl (Or.inl rfl) (pe_ix (ixLK K) (pv 0) pe_int (fun _ _ => rfl)))
(pss_cons (ps_set (i := 4) sc_take.nd rfl (Or.inl rfl) (pe_ix (ixLK K) (pe_lst (pa_cons pe_int (pa_cons pe_int (pa_cons pe_int (pa_cons pe_int (pa_cons pe_int (pa_cons pe_int pa_nil))))))) (pe_op op_mod (pv 3) pe_int) (fun _ _ => rfl)))
(pss_cons (ps_set (i := 5) sc_take.nd rfl (Or.inl rfl) (pe_op op_mod (pe_op op_pow (pe_op op_add (pe_op op_add (pe_ix (ixLK K) (pv 0) pe_int (fun _ _ => rfl)) (pe_op op_mul (pe_op op_mul pe_int (pv 3)) (pv 3))) (pe_op op_mul pe_int (pv 3))) pe_int) (pv 4)))
(pss_one (ps_ret (pe_op op_mod (pe_op op_fdiv (pe_op op_mod (pe_op op_mul (pv 5) (pe_op op_add (pe_op op_mod (pv 5) pe_int) (pe_op op_mul pe_int (pv 3)))) pe_int) pe_int) (pv 1))))))))), ?_⟩
    refine ⟨_, rfl, p, _, _, _, rfl, rfl, SqL.of hp, (at3 _ _ _).1, _, _, rfl, rfl, _, rfl, ?_⟩
    refine ite2 (fun hgt => ?_) (fun hgt => ?_)
    · refine ⟨_, rfl, p, _, _, _, rfl, rfl, SqL.of hp, (at3 _ _ _).1, _, rfl, _, _, rfl, rfl, hm0, ?_⟩
      refine ⟨_, rfl, p, _, _, _, rfl, rfl, SqL.of hp, (at3 _ _ _).1, _, rfl, _, _, rfl, rfl, ⟨hm0, hm1⟩, ?_⟩
      refine ⟨_, rfl, p, _, _, 0, rfl, rfl, hp, rfl, ?_⟩
      refine ⟨_, rfl, ?_⟩
      obtain ⟨r, er, hr2⟩ := mod_nat (a := a) hm0
      show Q (.int (a % m)) _
      rw [er]
      exact k _ r (SameX.at (SameX.refl _ _)) ⟨a / m, b, c, upd_same, Int.ediv_nonneg ha (by omega), hb, hb2, hc, by omega⟩ hr2
    · refine ⟨_, rfl, p, _, _, _, rfl, rfl, SqL.of hp, (at3 _ _ _).2.2, _, _, rfl, rfl, _, rfl, p, _, _, 2, rfl, rfl, hp, rfl, ?_⟩
      refine ⟨_, rfl, p, _, _, _, rfl, rfl, SqL.of upd_same, (at3 _ _ _).2.2, ?_⟩
      refine ⟨by decide, fun l hl => ?_⟩
      obtain ⟨q, hq, hq0, hq1⟩ := prime_at (c + 1)
      have nlp : p ≠ l := fun e => by rw [← e, upd_same] at hl; cases hl
      refine ⟨_, rfl, _, _, rfl, rfl, (by show (0 : Int) < 6; decide), l, _, _, _, rfl, rfl, SqL.of upd_same, hq, ?_⟩
      refine ⟨_, rfl, p, _, _, _, rfl, rfl, SqL.of ((upd_ne nlp).trans upd_same), (at3 _ _ _).2.1, _, rfl, _, _, rfl, rfl, .inl ⟨by decide, by decide⟩, _, rfl, _, _, rfl, rfl, .inr ⟨by omega, by omega⟩, _, _, rfl, rfl, _, rfl, _, _, rfl, rfl, .inl ⟨by decide, by decide⟩, _, _, rfl, rfl, _, _, rfl, rfl, ⟨by decide, by decide, ?_⟩, _, rfl, _, _, rfl, rfl, hq0, ?_⟩
      · have hs := sq_bd (t := c + 1) (by omega) (by omega)
        show (b + 65537 * (c + 1) * (c + 1) + 31 * (c + 1)).natAbs < 2 ^ 64
        omega
      · generalize hx : (b + 65537 * (c + 1) * (c + 1) + 31 * (c + 1)) ^ (3 : Int).toNat % q = x
        have hx0 : 0 ≤ x := by rw [← hx]; exact Int.emod_nonneg _ (by omega)
        have hx1 : x < 2147483648 := by have := Int.emod_lt_of_pos ((b + 65537 * (c + 1) * (c + 1) + 31 * (c + 1)) ^ (3 : Int).toNat) hq0; omega
        refine ⟨_, rfl, _, rfl, _, _, rfl, rfl, (by show (0 : Int) < 10007; decide), _, rfl, _, _, rfl, rfl, .inl ⟨by decide, by decide⟩, _, _, rfl, rfl, _, _, rfl, rfl, .inl ⟨by omega, by omega⟩, _, _, rfl, rfl, (by show (0 : Int) < 2305843009213693907; decide), _, _, rfl, rfl, ⟨by decide, by decide⟩, _, rfl, _, _, rfl, rfl, hm0, ?_⟩
        refine (fun y => ?_ : ∀ y : Int, Q (.int (y % m)) _) _
        obtain ⟨r, er, hr2⟩ := mod_nat (a := y) hm0
        rw [er]
        refine k _ r (SameX.new (SameX.at (SameX.refl _ _)) hl) ⟨a, b, c + 1, (upd_ne nlp).trans upd_same, ha, hb, hb2, by omega, by omega⟩ hr2
end
end LA

namespace LA
open PySem L2
open C8 (Cal pe_c)
theorem ten300 : PySem.intText? (("1" : Str) ++ Txt.mul "0" 300) = some (10 ^ 300) ∧ (("1" : Str) ++ Txt.mul "0" 300).length ≤ 640 := by decide +kernel
theorem mulOk300 : MulOk "0" 300 := by unfold MulOk; decide +kernel
theorem str300 : ("1" : Str).length + (Txt.mul "0" 300).length ≤ sizeLine := by decide +kernel
section
variable {P : Program} {w : World} {K : PySem.W.Frag} {mg : Str → Option Value} {base : Heap}
abbrev s_mixed : Stmt := topS 23
abbrev N_mixed : List Str := ["_law_pot_here", "_law_some", "_law_left", "_law_found"]
theorem sc_mixed : FnScope N_mixed ["_law_pot_here", "_law_some"] (defScope s_mixed) := ⟨rfl, rfl, rfl, by decide +kernel, rfl, by decide +kernel, by decide +kernel⟩
theorem dp_ints {K : PySem.W.Frag} {H : Hp} : ∀ ns : List Int, DpAll K H (ns.map V.int) (ns.map PyData.int)
  | [] => .nil
  | n :: ns => .cons (.int n) (dp_ints ns)
theorem lay_ints : ∀ ns : List Int, PyData.canLayAll0 (ns.map PyData.int) = true ∧ PyData.depthAll (ns.map PyData.int) ≤ 0
  | [] => by simp [PyData.canLayAll0, PyData.depthAll]
  | n :: ns => by have h := lay_ints ns; simp [PyData.canLayAll0, PyData.canLay0, PyData.depthAll, PyData.depth, h.1, Nat.le_zero.mp h.2]
theorem shaped_ints (ns : List Int) : SeqAt.shaped (.list (ns.map PyData.int)) = true := by
  have h := lay_ints ns
  show (PyData.canLay0 (.list (ns.map PyData.int)) && decide (PyData.depth (.list (ns.map PyData.int)) ≤ 64)) = true
  simp [PyData.canLay0, PyData.depth, h.1, Nat.le_zero.mp h.2]
theorem eqv_nil (ns : List Int) : PyData.eqv (.list (ns.map PyData.int)) (.list []) = decide (ns = []) := by
  cases ns <;> simp [PyData.eqv, PyData.eqvAll]
theorem ok_mixed {f : Addr} {fd : FuncData} (F : Fun K "_law_mixed" "_law_mixed" s_mixed f fd) (T : Bt mg) (c_take : Cal P w K mg base 1 "_law_take" spTake []) : FnOk P w K mg base CX0 2 f fd ["_law_pot_here", "_law_some"] (spMixed K) := by
  refine F.ok sc_mixed (fun vs H Q E h => ?_) (fun cdv A outer s H vs Q E hr h => ?_)
  · obtain ⟨p, l, xs, n, rfl, _⟩ := h
    rfl
  · obtain ⟨p, l, ns, n, rfl, hl, nlp, h1, hP, hn, k⟩ := h
    have hu64 := hr.units
    refine ⟨_, (pss_cons (ps_par (i := 2) (j := 3) rfl sc_mixed.nd rfl rfl (by decide) rfl rfl (pa_cons (pe_callTy (lstK K) (by rfl) T.list (by decide +kernel) (pa_cons (pv 1) pa_nil)) (pa_cons (pe_lst pa_nil) pa_nil)) rfl)
(pss_cons (ps_while PassesOwn.never (pt_cmpR (op_neD hu64) (pv 2) (pe_lst pa_nil) (nomark _))
(pss_one (ps_expr (pe_bm PySem.F.plainAttrs_list PySem.F.slot_list_append PySem.F.type_list_append mt_append (pv 3) (pa_cons (pe_bm PySem.F.plainAttrs_list PySem.F.slot_list_pop PySem.F.type_list_pop mt_popAt (pv 2) (pa_cons (pe_c c_take hr (by decide) rfl (pa_cons (pv 0) (pa_cons (pe_callB (lenK K) (by rfl) T.len PySem.boot_len (pa_cons (pv 2) pa_nil)) pa_nil))) pa_nil)) pa_nil)))))
(pss_one (ps_ret (pv 3))))), ?_⟩
    refine ⟨_, rfl, l, _, rfl, .inl (SqL.of hl), fun a ha => ?_⟩
    refine ⟨by decide, fun b hb => ⟨_, _, rfl, ?_⟩⟩
    have nab : a ≠ b := fun e => by rw [← e, upd_same] at hb; cases hb
    have hb0 : H b = none := by rw [← hb, upd_ne (Ne.symm nab)]
    have nap : a ≠ p := hP.ne ha
    have nbp : b ≠ p := hP.ne hb0
    refine while_by (fun σ H' => ∃ ls fs : List Int, σ = [some (.ref p), some (.ref l), some (.ref a), some (.ref b)] ∧ H' a = some (.lst (ls.map V.int)) ∧ H' b = some (.lst (fs.map V.int)) ∧ (fs ++ ls).Perm ns ∧ SameX p H H' ∧ PotAt H' p (n + fs.length))
      (fun σ H' => match H' a with | some (.lst xs) => xs.length | _ => 0) ?_ ?_ ?_
    · refine ⟨ns, [], rfl, by rw [upd_ne nab, upd_same], upd_same, by simp, ?_, (hP.new nap).new nbp⟩
      exact ((SameX.refl p H).new ha).new hb
    · rintro σ H' ⟨ls, fs, rfl, hla, hlb, hpm, hsx, hpt⟩
      refine ⟨_, rfl, by decide, fun c hc => ?_⟩
      have nca : a ≠ c := ne_of_none hla hc
      refine ⟨_, _, .lst (SqL.of ((upd_ne nca).trans hla)) (dp_ints ls), .lst (SqL.of upd_same) .nil, shaped_ints ls, by decide, _, rfl, ?_⟩
      rw [eqv_nil]
      by_cases hls : ls = []
      · rw [decide_eq_true hls]
        refine iteF ?_
        refine ⟨_, rfl, ?_⟩
        subst hls
        have ncb : b ≠ c := ne_of_none hlb hc
        have ncp : c ≠ p := hpt.ne hc
        have hlen : fs.length = ns.length := by have := hpm.length_eq; simpa using this
        refine k _ b fs (hsx.new hc) (by rw [← hlen]; exact hpt.new ncp) hb0 ((upd_ne ncb).trans hlb) (by simpa using hpm)
      · rw [decide_eq_false hls]
        refine iteT ?_
        have hpos : 0 < ls.length := List.length_pos_iff.mpr hls
        have ncb : b ≠ c := ne_of_none hlb hc
        have ncp : c ≠ p := hpt.ne hc
        have hlen : fs.length + ls.length = ns.length := by have := hpm.length_eq; simpa using this
        have hla1 := (upd_ne (o := HO.lst []) nca).trans hla
        have hlb1 := (upd_ne (o := HO.lst []) ncb).trans hlb
        refine ⟨_, rfl, .inl ⟨rfl, _, SqL.of hlb1⟩, _, rfl, .inl ⟨rfl, _, SqL.of hla1⟩, _, rfl, _, rfl, a, _, rfl, .inl (SqL.of hla1), p, _, n + fs.length, rfl, by simp; omega, by simp; omega, hpt.new ncp, by omega, fun H1 r s1 P1 hr1 => ?_⟩
        have hr2 : r < ls.length := by simpa using hr1
        have hla2 := s1 a _ hla1 nap
        have hlb2 := s1 b _ hlb1 nbp
        have hsm : ls.length ≤ 1000 := by omega
        refine ⟨a, _, _, r, .int ls[r], rfl, rfl, hla2, by omega, by omega, seqIx (by simpa using hr2), by simp [hr2], ?_⟩
        refine ⟨b, _, _, rfl, rfl, (upd_ne (Ne.symm nab)).trans hlb2, by simp; exact Nat.lt_of_le_of_lt (show fs.length ≤ 1000 by omega) (by decide), ?_⟩
        have e1 : (upd (upd H1 a (HO.lst ((ls.map V.int).eraseIdx r))) b (HO.lst (fs.map V.int ++ [V.int ls[r]]))) a = some (HO.lst ((ls.eraseIdx r).map V.int)) := by
          rw [upd_ne nab, upd_same, map_erase]
        refine ⟨⟨ls.eraseIdx r, fs ++ [ls[r]], rfl, e1, by rw [upd_same]; simp, ?_, ?_, ?_⟩, ?_⟩
        · rw [List.append_assoc]
          exact ((perm_erase ls r hr2).append_left fs).trans hpm
        · exact (((hsx.new hc).trans s1).own ha).own hb0
        · have := (P1.new (o := HO.lst ((ls.map V.int).eraseIdx r)) nap).new (o := HO.lst (fs.map V.int ++ [V.int ls[r]])) nbp
          simpa [Nat.add_assoc] using this
        · rw [e1, hla]
          simp [List.length_eraseIdx, hr2]; omega
    · intro σ H Q Q' hq h
      obtain ⟨v, e, h1, h2⟩ := h
      refine ⟨v, e, h1, fun p hp => ?_⟩
      obtain ⟨d, e', hd, he, sd, se, c, hc, q⟩ := h2 p hp
      exact ⟨d, e', hd, he, sd, se, c, hc, hq _ _ q⟩
end
end LA

namespace LA
open PySem L2
open C8 (Cal pe_c)
theorem b01 (b : Bool) : 0 ≤ (if b = true then (1 : Int) else 0) ∧ (if b = true then (1 : Int) else 0) ≤ 1 := by cases b <;> decide
section
variable {P : Program} {w : World} {K : PySem.W.Frag} {mg : Str → Option Value} {base : Heap}
abbrev s_pot : Stmt := topS 21
abbrev N_pot : List Str := ["_law_script", "_law_k", "_law_cell", "_law_own"]
theorem sc_pot : FnScope N_pot ["_law_script", "_law_k"] (defScope s_pot) := ⟨rfl, rfl, rfl, by decide +kernel, rfl, by decide +kernel, by decide +kernel⟩
theorem ok_pot {f : Addr} {fd : FuncData} (F : Fun K "_law_pot" "_law_pot" s_pot f fd) (T : Bt mg) : FnOk P w K mg base CX0 1 f fd ["_law_script", "_law_k"] (spPot K) := by
  refine F.ok sc_pot (fun vs H Q E h => ?_) (fun cdv A outer s H vs Q E hr h => ?_)
  · obtain ⟨a, ns, k, rfl, _⟩ := h
    rfl
  · obtain ⟨a, ns, k, rfl, hS, hk, q⟩ := h
    refine ⟨_, (C8.pss_cut (ps_set (i := 2) sc_pot.nd rfl (Or.inl rfl) (pe_ifExp (pt_cmpR op_lt (pv 1) (pe_callB (lenK K) (by rfl) T.len PySem.boot_len (pa_cons (pv 0) pa_nil)) (nomark _)) (pe_ix (ixLK K) (pv 0) (pv 1) (fun _ _ => rfl)) (pe_op op_add (pe_op op_mul pe_int (pv 1)) pe_int)))
(pss_cons (ps_set (i := 3) sc_pot.nd rfl (Or.inl rfl) (pe_op op_mul (pe_op op_mod (pe_callB call_abs (by rfl) T.abs (by decide +kernel) (pa_cons (pv 2) pa_nil)) (pe_callTy call_int_str (by rfl) T.int (by decide +kernel) (pa_cons (pe_op op_add_str pe_str (pe_op op_mul_str pe_str pe_int)) pa_nil))) (pe_callTy call_int1 (by rfl) T.int (by decide +kernel) (pa_cons (pe_cmpR op_ge (pe_callB call_abs (by rfl) T.abs (by decide +kernel) (pa_cons (pv 2) pa_nil)) (pe_op op_pow pe_int pe_int) (nomark _)) pa_nil))))
(pss_one (ps_ret (pe_lst (pa_cons (pv 3) (pa_cons (pe_op op_mod (pe_op op_mul (pe_op op_add (pe_op op_add (pe_op op_mod (pv 2) pe_int) (pe_op op_mul (pe_op op_mul pe_int (pv 1)) (pv 1))) pe_int) pe_int) pe_int) (pa_cons pe_int pa_nil)))))))), ?_⟩
    refine ⟨fun σ' H' => H' = H ∧ ∃ cell : Int, σ' = [some (.ref a), some (.int (k : Int)), some (.int cell), none], ?_, ?_⟩
    · refine ⟨_, rfl, _, rfl, a, _, rfl, .inl hS, _, _, rfl, rfl, _, rfl, ?_⟩
      refine ite2 (fun hlt => ?_) (fun hlt => ?_)
      · have hlt2 : k < ns.length := by have := of_decide_eq_true hlt; simpa using this
        exact ⟨_, rfl, _, rfl, a, _, _, .int ns[k], rfl, rfl, hS, atI_nat (by simp [hlt2]), rfl, _, rfl⟩
      · exact ⟨_, rfl, _, _, rfl, rfl, .inl ⟨by decide, by decide⟩, _, _, rfl, rfl, rfl, _, rfl⟩
    · rintro σ' H' ⟨rfl, cell, rfl⟩
      refine ⟨_, rfl, _, rfl, _, _, rfl, rfl, mulOk300, _, _, rfl, rfl, str300, _, _, rfl, ten300.1, ten300.2, _, _, rfl, rfl, (by show (0 : Int) < 10 ^ 300; decide), ?_⟩
      refine ⟨_, rfl, _, rfl, _, _, rfl, rfl, ⟨by decide, by decide, by decide⟩, _, _, rfl, rfl, .inr ⟨_, rfl, _, _, rfl, rfl, .inr ⟨Int.lt_of_lt_of_le (by decide) (b01 _).1, Int.lt_of_le_of_lt (b01 _).2 (by decide)⟩, ?_⟩⟩
      refine ⟨_, rfl, _, rfl, _, _, rfl, rfl, (by show (0 : Int) < 2305843009213693951; decide), _, rfl, _, _, rfl, rfl, .inl ⟨by decide, by decide⟩, _, rfl, _, _, rfl, rfl, .inr ⟨by omega, by omega⟩, _, _, rfl, rfl, _, _, rfl, rfl, _, _, rfl, rfl, .inr ⟨by decide, by decide⟩, _, _, rfl, rfl, (by show (0 : Int) < 2305843009213693951; decide), (by show 3 ≤ sizeLine; decide), fun p hp => ?_⟩
      refine q _ p (Same.new (Same.refl _) hp) hp ⟨_, _, _, upd_same, ?_, ?_, ?_, by decide, by decide⟩
      · refine Int.mul_nonneg (Int.emod_nonneg _ (by decide)) (b01 _).1
      · exact Int.emod_nonneg _ (by decide)
      · exact Int.emod_lt_of_pos _ (by decide)
end
end LA

namespace LA
open PySem L2
open C8 (Cal pe_c)
section
variable {P : Program} {w : World} {K : PySem.W.Frag} {mg : Str → Option Value} {base : Heap}
end
end LA

namespace LA
open PySem L2
open C8 (Cal pe_c)
section
variable {P : Program} {w : World} {K : PySem.W.Frag} {mg : Str → Option Value} {base : Heap}
end
end LA

namespace LA
open PySem L2
open C8 (Cal pe_c)
section
variable {P : Program} {w : World} {K : PySem.W.Frag} {mg : Str → Option Value} {base : Heap}
end
end LA

namespace LA
open PySem L2
open C8 (Cal pe_c)
section
variable {P : Program} {w : World} {K : PySem.W.Frag} {mg : Str → Option Value} {base : Heap}
abbrev s_endless : Stmt := topS 24
abbrev N_endless : List Str := ["_law_start"]
theorem sc_endless : FnScope N_endless [] (defScope s_endless) := ⟨rfl, rfl, rfl, by decide +kernel, rfl, by decide +kernel, by decide +kernel⟩
theorem ok_endless {f : Addr} {fd : FuncData} (F : Fun K "_law_endless" "_law_endless" s_endless f fd) (T : Bt mg) : FnOk P w K mg base CX0 1 f fd [] (spEndless K) := by
  refine F.ok sc_endless (fun vs H Q E h => ?_) (fun cdv A outer s H vs Q E hr h => ?_)
  · obtain ⟨rfl, _⟩ := h
    rfl
  · obtain ⟨rfl, k⟩ := h
    refine ⟨_, (pss_cons (ps_set (i := 0) sc_endless.nd rfl (Or.inl rfl) (pe_tup (pa_cons (pe_tup (pa_cons pe_int (pa_cons pe_int pa_nil))) (pa_cons (pe_tup (pa_cons pe_int (pa_cons pe_non pa_nil))) (pa_cons (pe_tup (pa_cons pe_non (pa_cons pe_int pa_nil))) pa_nil)))))
(pss_one (ps_ret (pe_tup (pa_cons (pv 0) (pa_cons (pe_tup (pa_cons (pe_tup (pa_cons pe_int (pa_cons pe_int pa_nil))) (pa_cons (pe_tup (pa_cons pe_int (pa_cons pe_int pa_nil))) (pa_cons (pe_tup (pa_cons pe_non (pa_cons pe_non pa_nil))) pa_nil)))) (pa_cons (pe_tup (pa_cons (pe_tup (pa_cons pe_int (pa_cons pe_int pa_nil))) (pa_cons (pe_tup (pa_cons pe_non (pa_cons pe_non pa_nil))) (pa_cons (pe_tup (pa_cons pe_int (pa_cons pe_int pa_nil))) pa_nil)))) pa_nil))))))), ?_⟩
    have l2 : 2 ≤ sizeLine := by decide
    have l3 : 3 ≤ sizeLine := by decide
    refine ⟨l2, fun a1 n1 => ⟨l2, fun a2 n2 => ⟨l2, fun a3 n3 => ⟨l3, fun b1 m1 => ?_⟩⟩⟩⟩
    refine ⟨_, rfl, l2, fun a4 n4 => ⟨l2, fun a5 n5 => ⟨l2, fun a6 n6 => ⟨l3, fun b2 m2 => ?_⟩⟩⟩⟩
    refine ⟨l2, fun a7 n7 => ⟨l2, fun a8 n8 => ⟨l2, fun a9 n9 => ⟨l3, fun b3 m3 => ⟨l3, fun c0 mc => ?_⟩⟩⟩⟩⟩
    have q13 := SameT.new (o := .tup [V.ref b1, V.ref b2, V.ref b3]) mc
    have q12 := (SameT.new (o := .tup [V.ref a7, V.ref a8, V.ref a9]) m3).trans q13
    have q11 := (SameT.new (o := .tup [V.int 0, V.int 0]) n9).trans q12
    have q10 := (SameT.new (o := .tup [V.non, V.non]) n8).trans q11
    have q9 := (SameT.new (o := .tup [V.int 2, V.int 2]) n7).trans q10
    have q8 := (SameT.new (o := .tup [V.ref a4, V.ref a5, V.ref a6]) m2).trans q9
    have q7 := (SameT.new (o := .tup [V.non, V.non]) n6).trans q8
    have q6 := (SameT.new (o := .tup [V.int 0, V.int 0]) n5).trans q7
    have q5 := (SameT.new (o := .tup [V.int 1, V.int 1]) n4).trans q6
    have q4 := (SameT.new (o := .tup [V.ref a1, V.ref a2, V.ref a3]) m1).trans q5
    have q3 := (SameT.new (o := .tup [V.non, V.int 0]) n3).trans q4
    have q2 := (SameT.new (o := .tup [V.int 0, V.non]) n2).trans q3
    refine k _ _ ((((((((((((((Same.refl H).new n1).new n2).new n3).new m1).new n4).new n5).new n6).new m2).new n7).new n8).new n9).new m3).new mc) ⟨c0, _, rfl, SqT.of upd_same, ?_⟩
    refine .cons ⟨b1, _, rfl, q5.seq (SqT.of upd_same), .cons ⟨a1, rfl, q2.seq (SqT.of upd_same)⟩ (.cons ⟨a2, rfl, q3.seq (SqT.of upd_same)⟩ (.cons ⟨a3, rfl, q4.seq (SqT.of upd_same)⟩ .nil))⟩ ?_
    refine .cons ⟨b2, _, rfl, q9.seq (SqT.of upd_same), .cons ⟨a4, rfl, q6.seq (SqT.of upd_same)⟩ (.cons ⟨a5, rfl, q7.seq (SqT.of upd_same)⟩ (.cons ⟨a6, rfl, q8.seq (SqT.of upd_same)⟩ .nil))⟩ ?_
    exact .cons ⟨b3, _, rfl, q13.seq (SqT.of upd_same), .cons ⟨a7, rfl, q10.seq (SqT.of upd_same)⟩ (.cons ⟨a8, rfl, q11.seq (SqT.of upd_same)⟩ (.cons ⟨a9, rfl, q12.seq (SqT.of upd_same)⟩ .nil))⟩ .nil
end
end LA

namespace LA
open PySem L2
open C8 (Cal pe_c)
section
variable {P : Program} {w : World} {K : PySem.W.Frag} {mg : Str → Option Value} {base : Heap}
abbrev s_turned : Stmt := topS 25
abbrev N_turned : List Str := ["_law_judge", "_law_order", "_law_xs", "_law_ys", "_law_found", "_law_y", "_law_x", "_law_state", "_law_rows", "_law_row", "_law_entry"]
theorem sc_turned : FnScope N_turned ["_law_judge", "_law_order", "_law_xs", "_law_ys"] (defScope s_turned) := ⟨rfl, rfl, rfl, by decide +kernel, rfl, by decide +kernel, by decide +kernel⟩
abbrev t1 : Expr := asgV ((defBody s_turned).getD 0 noS)
abbrev t2 : Expr := arg0 (asgV ((defBody s_turned).getD 2 noS))
theorem ok_turned {f : Addr} {fd : FuncData} (F : Fun K "_law_turned" "_law_turned" s_turned f fd) (T : Bt mg) : FnOk P w K mg base CX0 1 f fd ["_law_judge", "_law_order", "_law_xs", "_law_ys"] (spTurnV K false false) := by
  refine F.ok sc_turned (fun vs H Q E h => ?_) (fun cdv A outer s H vs Q E hr h => ?_)
  · obtain ⟨v, ol, xl, yl, j, nx, ny, os, xs, ys, rfl, _⟩ := h
    rfl
  · obtain ⟨v, ol, xl, yl, j, nx, ny, os, xs, ys, rfl, hj, ij, ho, hx, hy, po, px, py, k⟩ := h
    have ho : SqL K H ol (os.map nV) := ho
    have hx : SqL K H xl (xs.map nV) := hx
    have hy : SqL K H yl (ys.map nV) := hy
    refine ⟨_, (pss_cons (ps_setLc (i := 4) (own := [("_law_state", 7)]) (g := (gName 7)) (tt := tYes) rfl sc_turned.nd rfl rfl (sw_true rfl rfl rfl (by decide +kernel)) (piLK K (pv 1)) (blkOk_by (N := N_turned) (sc := defScope s_turned) (by decide +kernel)) (fun _ _ _ _ _ => (pg_name (i := 7) sc_turned.nd rfl (Or.inl rfl))) (fun _ _ _ _ _ => pts_nil) (fun _ _ _ _ _ => (pe_lc (own := [("_law_x", 6)]) (g := (gName 6)) (tt := tYes) rfl sc_turned.nd (piLK K (pv 2)) (blkOk_by (N := N_turned) (sc := relS (lcS (stX ((defBody s_turned).getD 0 noS))) (defScope s_turned)) (by decide +kernel)) (fun _ _ _ _ _ => (pg_name (i := 6) sc_turned.nd rfl (Or.inl rfl))) (fun _ _ _ _ _ => pts_nil) (fun _ _ _ _ _ => (pe_lc (own := [("_law_y", 5)]) (g := (gName 5)) (tt := tYes) rfl sc_turned.nd (piLK K (pv 3)) (blkOk_by (N := N_turned) (sc := relS (lcS (exX 0 (stX ((defBody s_turned).getD 0 noS)))) (relS (lcS (stX ((defBody s_turned).getD 0 noS))) (defScope s_turned))) (by decide +kernel)) (fun _ _ _ _ _ => (pg_name (i := 5) sc_turned.nd rfl (Or.inl rfl))) (fun _ _ _ _ _ => pts_nil) (fun _ _ _ _ _ => pe_non))))))
(pss_cons (ps_for PassesOwn.never rfl (pi_enumT (by rfl) T.enumerate (pa_cons (pv 0) pa_nil)) (pg_tup rfl (pgs_cons (pg_name (i := 7) sc_turned.nd rfl (Or.inl rfl)) (pgs_cons (pg_name (i := 8) sc_turned.nd rfl (Or.inl rfl)) pgs_nil)))
(pss_one (ps_for PassesOwn.never rfl (pi_enumT (by rfl) T.enumerate (pa_cons (pv 8) pa_nil)) (pg_tup rfl (pgs_cons (pg_name (i := 6) sc_turned.nd rfl (Or.inl rfl)) (pgs_cons (pg_name (i := 9) sc_turned.nd rfl (Or.inl rfl)) pgs_nil)))
(pss_one (ps_for PassesOwn.never rfl (pi_enumT (by rfl) T.enumerate (pa_cons (pv 9) pa_nil)) (pg_tup rfl (pgs_cons (pg_name (i := 5) sc_turned.nd rfl (Or.inl rfl)) (pgs_cons (pg_name (i := 10) sc_turned.nd rfl (Or.inl rfl)) pgs_nil)))
(pss_one (ps_asg (pe_ifExp (pt_cmpR op_isN (pv 10) pe_non (nomark _)) pe_non (pe_ix (ixLK K) (pv 1) (pv 10) (fun _ _ => rfl))) (pg_sub (pe_ix (ixLK K) (pe_ix (ixLK K) (pv 4) (pe_ix (ixLK K) (pv 1) (pv 7) (fun _ _ => rfl)) (fun _ _ => rfl)) (pe_ix (ixLK K) (pv 2) (pv 6) (fun _ _ => rfl)) (fun _ _ => rfl)) (pe_ix (ixLK K) (pv 3) (pv 5) (fun _ _ => rfl)) set_list))))))))
(pss_one (ps_ret (pe_callTy (tupK K) (by rfl) T.tuple (by decide +kernel) (pa_cons (pe_lc (own := [("_law_rows", 8)]) (g := (gName 8)) (tt := tYes) rfl sc_turned.nd (piLK K (pv 4)) (blkOk_by (N := N_turned) (sc := defScope s_turned) (by decide +kernel)) (fun _ _ _ _ _ => (pg_name (i := 8) sc_turned.nd rfl (Or.inl rfl))) (fun _ _ _ _ _ => pts_nil) (fun _ _ _ _ _ => (pe_callTy (tupK K) (by rfl) T.tuple (by decide +kernel) (pa_cons (pe_lc (own := [("_law_row", 9)]) (g := (gName 9)) (tt := tYes) rfl sc_turned.nd (piLK K (pv 8)) (blkOk_by (N := N_turned) (sc := relS (lcS (exX 0 (stX ((defBody s_turned).getD 2 noS)))) (defScope s_turned)) (by decide +kernel)) (fun _ _ _ _ _ => (pg_name (i := 9) sc_turned.nd rfl (Or.inl rfl))) (fun _ _ _ _ _ => pts_nil) (fun _ _ _ _ _ => (pe_callTy (tupK K) (by rfl) T.tuple (by decide +kernel) (pa_cons (pv 9) pa_nil)))) pa_nil)))) pa_nil)))))), ?_⟩
    have hn8 := ij.n8
    have hx4 := ij.x4
    have hy4 := ij.y4
    have len0 : (os.map nV).length = j.length := by rw [List.length_map]; exact po.len
    have lenx : (xs.map nV).length = nx := by rw [List.length_map]; exact px.len
    have leny : (ys.map nV).length = ny := by rw [List.length_map]; exact py.len
    refine ⟨_, rfl, ol, rfl, ⟨_, ho⟩, fun fl hfl => ?_⟩
    refine lc_list (K := K) (a := ol) (xs := os.map nV) (fun m H' => ∃ (S : Nat → Addr) (A : Nat → Nat → Addr), Grid H' fl m nx ny S A (fun _ _ => List.replicate ny none) ∧ (∀ a b, a < m → b < nx → H (A a b) = none) ∧ (∀ a, a < m → S a ≠ fl) ∧ Same H H')
      ⟨fun _ => fl, fun _ _ => fl, ⟨upd_same, by omega, by omega, by omega, by omega, by omega, by omega⟩, by omega, by omega, (Same.refl H).new hfl⟩ (fun m H' _ ⟨_, _, _, _, _, z⟩ => sqL_s ho z) ?_ ?_
    · rintro m ov H1 hov ⟨S, A, G1, f1, SF, S1⟩
      have hm8 : m < j.length := by rw [← len0]; exact (List.getElem?_eq_some_iff.mp hov).1
      refine ⟨rfl, tyes ?_⟩
      refine ⟨_, rfl, xl, rfl, ⟨_, sqL_s hx S1⟩, fun sl hsl => ?_⟩
      refine lc_list (K := K) (a := xl) (xs := xs.map nV) (fun b H' => ∃ B : Nat → Addr, H' sl = some (.lst ((List.range b).map fun i => V.ref (B i))) ∧ (∀ i, i < b → H' (B i) = some (.lst ((List.replicate ny (none : Option Nat)).map oV)) ∧ H1 (B i) = none ∧ B i ≠ sl) ∧
          (∀ i i', i < b → i' < b → B i = B i' → i = i') ∧ Same H1 H')
        ⟨fun _ => sl, upd_same, by omega, by omega, (Same.refl H1).new hsl⟩ (fun m H' _ ⟨_, _, _, _, z⟩ => sqL_s hx (S1.trans z)) ?_ ?_
      · rintro b xv H2 hxv ⟨B, h2, hB, iB, S2⟩
        have hb4 : b < nx := by rw [← lenx]; exact (List.getElem?_eq_some_iff.mp hxv).1
        refine ⟨rfl, tyes ?_⟩
        refine ⟨_, rfl, yl, rfl, ⟨_, sqL_s hy (S1.trans S2)⟩, fun rl hrl => ?_⟩
        refine lc_list (K := K) (a := yl) (xs := ys.map nV) (fun c H' => H' rl = some (.lst ((List.replicate c (none : Option Nat)).map oV)) ∧ Same H2 H')
          ⟨upd_same, (Same.refl H2).new hrl⟩ (fun m H' _ ⟨_, z⟩ => sqL_s hy ((S1.trans S2).trans z)) ?_ ?_
        · rintro c yv H3 hyv ⟨h3, S3⟩
          have hc4 : c < ny := by rw [← leny]; exact (List.getElem?_eq_some_iff.mp hyv).1
          refine ⟨rfl, tyes ?_⟩
          refine ⟨_, h3, by simp; exact Nat.lt_of_le_of_lt (show c ≤ 1000 by omega) (by decide), ?_, S3.own hrl⟩
          rw [upd_same, List.replicate_succ']; simp [oV]
        · rintro H3 ⟨h3, S3⟩
          rw [leny] at h3
          have h3s := S3 sl _ h2
          refine ⟨_, h3s, by simp; exact Nat.lt_of_le_of_lt (show b ≤ 1000 by omega) (by decide), ?_⟩
          have nsr : sl ≠ rl := ne_of_none h2 hrl
          refine ⟨fun i => if i = b then rl else B i, ?_, fun i hi => ?_, fun i i' hi hi' e => ?_, (S2.trans S3).own hsl⟩
          · rw [upd_same, range_ext (f := fun i => V.ref (B i)) (x := V.ref rl) (fun i hi => by show V.ref (if i = b then rl else B i) = _; rw [if_neg (by omega)]) (by show V.ref (if b = b then rl else B b) = _; rw [if_pos rfl])]
          · by_cases e : i = b
            · simp only [if_pos e]
              exact ⟨by rw [upd_ne (Ne.symm nsr)]; exact h3, S2.free hrl, Ne.symm nsr⟩
            · simp only [if_neg e]
              obtain ⟨q1, q2, q3⟩ := hB i (by omega)
              exact ⟨by rw [upd_ne q3]; exact S3 _ _ q1, q2, q3⟩
          · by_cases e1 : i = b
            · by_cases e2 : i' = b
              · omega
              · simp only [if_pos e1, if_neg e2] at e
                have q := (hB i' (by omega)).1
                rw [← e, hrl] at q; cases q
            · by_cases e2 : i' = b
              · simp only [if_neg e1, if_pos e2] at e
                have q := (hB i (by omega)).1
                rw [e, hrl] at q; cases q
              · simp only [if_neg e1, if_neg e2] at e
                exact iB i i' (by omega) (by omega) e
      · rintro H2 ⟨B, h2, hB, iB, S2⟩
        rw [lenx] at h2 hB iB
        have h2f := S2 fl _ G1.top
        have nfs : fl ≠ sl := ne_of_none G1.top hsl
        refine ⟨_, h2f, by simp; exact Nat.lt_of_le_of_lt (show m ≤ 1000 by omega) (by decide), ?_⟩
        have B1 : ∀ i, i < nx → B i ≠ fl := fun i hi z => by have q := (hB i hi).2.1; rw [z, G1.top] at q; cases q
        have BA : ∀ i a b, i < nx → a < m → b < nx → B i ≠ A a b := fun i a b hi ha hb z => by have q := (hB i hi).2.1; rw [z, G1.rw a b ha hb] at q; cases q
        have BS : ∀ i a, i < nx → a < m → B i ≠ S a := fun i a hi ha z => by have q := (hB i hi).2.1; rw [z, G1.st a ha] at q; cases q
        have SS : ∀ a, a < m → S a ≠ sl := fun a ha z => by have q := G1.st a ha; rw [z, hsl] at q; cases q
        have AS : ∀ a b, a < m → b < nx → A a b ≠ sl := fun a b ha hb z => by have q := G1.rw a b ha hb; rw [z, hsl] at q; cases q
        refine ⟨fun a => if a = m then sl else S a, fun a b => if a = m then B b else A a b, ⟨?_, fun a ha => ?_, fun a b ha hb => ?_, fun a b a' b' ha hb ha' hb' e => ?_, fun a b a' ha hb ha' => ?_, fun a b ha hb => ?_, fun a b ha hb => ⟨by simp, by simp⟩⟩, fun a b ha hb => ?_, fun a ha => ?_, (S1.trans S2).own hfl⟩
        · rw [upd_same, range_ext (f := fun i => V.ref (S i)) (x := V.ref sl) (fun i hi => by show V.ref (if i = m then sl else S i) = _; rw [if_neg (by omega)]) (by show V.ref (if m = m then sl else S m) = _; rw [if_pos rfl])]
        · by_cases e : a = m
          · simp only [if_pos e]
            rw [upd_ne (Ne.symm nfs)]; exact h2
          · simp only [if_neg e]
            rw [upd_ne (SF a (by omega))]; exact S2 _ _ (G1.st a (by omega))
        · by_cases e : a = m
          · simp only [if_pos e]
            rw [upd_ne (B1 b hb)]; exact (hB b hb).1
          · simp only [if_neg e]
            rw [upd_ne (G1.nF a b (by omega) hb)]; exact S2 _ _ (G1.rw a b (by omega) hb)
        · by_cases e1 : a = m
          · by_cases e2 : a' = m
            · simp only [if_pos e1, if_pos e2] at e
              exact ⟨by omega, iB b b' hb hb' e⟩
            · simp only [if_pos e1, if_neg e2] at e
              exact absurd e (BA b a' b' hb (by omega) hb')
          · by_cases e2 : a' = m
            · simp only [if_neg e1, if_pos e2] at e
              exact absurd e.symm (BA b' a b hb' (by omega) hb)
            · simp only [if_neg e1, if_neg e2] at e
              exact G1.inj a b a' b' (by omega) hb (by omega) hb' e
        · by_cases e1 : a = m
          · by_cases e2 : a' = m
            · simp only [if_pos e1, if_pos e2]; exact (hB b hb).2.2
            · simp only [if_pos e1, if_neg e2]; exact BS b a' hb (by omega)
          · by_cases e2 : a' = m
            · simp only [if_neg e1, if_pos e2]; exact AS a b (by omega) hb
            · simp only [if_neg e1, if_neg e2]; exact G1.nS a b a' (by omega) hb (by omega)
        · by_cases e : a = m
          · simp only [if_pos e]; exact B1 b hb
          · simp only [if_neg e]; exact G1.nF a b (by omega) hb
        · by_cases e : a = m
          · simp only [if_pos e]; exact S1.free (hB b hb).2.1
          · simp only [if_neg e]; exact f1 a b (by omega) hb
        · by_cases e : a = m
          · simp only [if_pos e]; exact Ne.symm nfs
          · simp only [if_neg e]; exact SF a (by omega)
    · rintro H1 ⟨S, A, G1, f1, _, S1⟩
      rw [len0] at G1 f1
      obtain ⟨ja, jvs, rfl, hjs, hjp⟩ := hj
      have hjl := paired_len hjp
      refine ⟨_, rfl, ja, jvs, rfl, (Same.t S1).seq hjs, for_enumT (K := K) (a := ja) (xs := jvs) (fun i σ H' => ∃ (v5 v6 v7 v8 v9 v10 : Option V) (c : Nat → Nat → Rw), σ = [some (.ref ja), some (.ref ol), some (.ref xl), some (.ref yl), some (.ref fl), v5, v6, v7, v8, v9, v10] ∧ Grid H' fl j.length nx ny S A c ∧ Dn j nx ny os xs ys c (fun s x y => s < i) ∧ Same H H')
        ⟨none, none, none, none, none, none, _, rfl, G1, fun s x y _ _ _ h => absurd h (Nat.not_lt_zero _), S1⟩ (fun i σ H' _ ⟨_, _, _, _, _, _, _, _, _, _, z⟩ => (Same.t z).seq hjs) ?_ ?_⟩
      · rintro i sv σ H2 T2 hsv ⟨v5, v6, v7, v8, v9, v10, c2, rfl, G2, D2', S2⟩ hT2
        obtain ⟨sd, hsd, sa, svs, rfl, hss, hsp⟩ := paired_at hjp hsv
        have hi8 : i < j.length := (List.getElem?_eq_some_iff.mp hsd).1
        obtain ⟨hsl1, hsl2⟩ := ij.st sd (List.mem_of_getElem? hsd)
        have hspl := paired_len hsp
        refine ⟨T2, _, rfl, SqT.of upd_same, rfl, _, _, rfl, _, _, rfl, rfl, ?_⟩
        have S2' := S2.new (o := .tup [.int ((i : Nat) : Int), .ref sa]) hT2
        refine ⟨_, rfl, sa, svs, rfl, (Same.t S2').seq hss, for_enumT (K := K) (a := sa) (xs := svs) (fun x σ H' => ∃ (v5 v6 v9 v10 : Option V) (c : Nat → Nat → Rw), σ = [some (.ref ja), some (.ref ol), some (.ref xl), some (.ref yl), some (.ref fl), v5, v6, some (.int (i : Int)), some (.ref sa), v9, v10] ∧ Grid H' fl j.length nx ny S A c ∧ Dn j nx ny os xs ys c (fun s x' y => s < i ∨ (s = i ∧ x' < x)) ∧ Same H H')
          ⟨v5, v6, v9, v10, _, rfl, G2.same ((Same.refl H2).new hT2), D2'.weak fun s x y h => h.elim id fun h => absurd h.2 (Nat.not_lt_zero _), S2'⟩ (fun i σ H' _ ⟨_, _, _, _, _, _, _, _, z⟩ => (Same.t z).seq hss) ?_ ?_⟩
        · rintro x rv σ H3 T3 hrv ⟨v5, v6, v9, v10, c3, rfl, G3, D3', S3⟩ hT3
          obtain ⟨rd, hrd, ra, rfl, hrs⟩ := paired_at hsp hrv
          have hx4 : x < nx := by rw [← hsl1]; exact (List.getElem?_eq_some_iff.mp hrd).1
          obtain ⟨hrl1, hrl2⟩ := hsl2 rd (List.mem_of_getElem? hrd)
          refine ⟨T3, _, rfl, SqT.of upd_same, rfl, _, _, rfl, _, _, rfl, rfl, ?_⟩
          have S3' := S3.new (o := .tup [.int ((x : Nat) : Int), .ref ra]) hT3
          refine ⟨_, rfl, ra, rd.map oV, rfl, (Same.t S3').seq hrs, for_enumT (K := K) (a := ra) (xs := rd.map oV) (fun y σ H' => ∃ (v5 v10 : Option V) (c : Nat → Nat → Rw), σ = [some (.ref ja), some (.ref ol), some (.ref xl), some (.ref yl), some (.ref fl), v5, some (.int (x : Int)), some (.int (i : Int)), some (.ref sa), some (.ref ra), v10] ∧ Grid H' fl j.length nx ny S A c ∧ Dn j nx ny os xs ys c (fun s x' y' => s < i ∨ (s = i ∧ (x' < x ∨ (x' = x ∧ y' < y)))) ∧ Same H H')
            ⟨v5, v10, _, rfl, G3.same ((Same.refl H3).new hT3), D3'.weak fun s x y h => h.imp id fun h => ⟨h.1, h.2.elim id fun z => absurd z.2 (Nat.not_lt_zero _)⟩, S3'⟩ (fun i σ H' _ ⟨_, _, _, _, _, _, z⟩ => (Same.t z).seq hrs) ?_ ?_⟩
          · rintro y ev σ H4 T4 hev ⟨v5, v10, c4, rfl, G4, D4, S4⟩ hT4
            have hy4 : y < ny := by rw [← hrl1]; have := (List.getElem?_eq_some_iff.mp hev).1; simpa using this
            obtain ⟨o, ho1, rfl⟩ : ∃ o, rd[y]? = some o ∧ ev = oV o := by
              rw [List.getElem?_map] at hev
              cases e : rd[y]? with
              | none => rw [e] at hev; cases hev
              | some o => rw [e] at hev; exact ⟨o, rfl, (Option.some.inj hev).symm⟩
            refine ⟨T4, _, rfl, SqT.of upd_same, rfl, _, _, rfl, _, _, rfl, rfl, ?_⟩
            have S5 := S4.new (o := .tup [.int ((y : Nat) : Int), oV o]) hT4
            have G5 := G4.same ((Same.refl H4).new (o := .tup [.int ((y : Nat) : Int), oV o]) hT4)
            obtain ⟨a, ea, ha2⟩ : ∃ a, a = os.getD i 0 ∧ a < j.length := ⟨_, rfl, po.lt hi8⟩
            have ha1 : (os.map nV)[i]? = some (nV a) := by rw [List.getElem?_map, po.at hi8, ← ea]; rfl
            obtain ⟨b, eb, hb2⟩ : ∃ b, b = xs.getD x 0 ∧ b < nx := ⟨_, rfl, px.lt hx4⟩
            have hb1 : (xs.map nV)[x]? = some (nV b) := by rw [List.getElem?_map, px.at hx4, ← eb]; rfl
            obtain ⟨d, ed, hd2⟩ : ∃ d, d = ys.getD y 0 ∧ d < ny := ⟨_, rfl, py.lt hy4⟩
            have hd1 : (ys.map nV)[y]? = some (nV d) := by rw [List.getElem?_map, py.at hy4, ← ed]; rfl
            have ho5 := sqL_s ho S5
            refine ⟨_, rfl, rfl, _, rfl, ?_⟩
            have eent : entJ j i x y = some o := by rw [entJ_at hsd hrd, ho1]
            have fin : ∀ o' : Option Nat, (∀ m, o' = some m → m < j.length) → o' = o.map (fun t => os.getD t 0) → ∀ D : Ends, (∀ (v5 v10 : Option V) (c : Nat → Nat → Rw) H', Grid H' fl j.length nx ny S A c → Dn j nx ny os xs ys c (fun s x' y' => s < i ∨ (s = i ∧ (x' < x ∨ (x' = x ∧ y' < y + 1)))) → Same H H' →
                D.nx [some (.ref ja), some (.ref ol), some (.ref xl), some (.ref yl), some (.ref fl), v5, some (.int (x : Int)), some (.int (i : Int)), some (.ref sa), some (.ref ra), v10] H') →
                gSub (tOp (rIxL K) (tOp (rIxL K) (tVar 4) (tOp (rIxL K) (tVar 1) (tVar 7))) (tOp (rIxL K) (tVar 2) (tVar 6))) (tOp (rIxL K) (tVar 3) (tVar 5)) rSetL (oV o')
                  [some (.ref ja), some (.ref ol), some (.ref xl), some (.ref yl), some (.ref fl), some (.int (y : Int)), some (.int (x : Int)), some (.int (i : Int)), some (.ref sa), some (.ref ra), some (oV o)]
                  (upd H4 T4 (.tup [.int ((y : Nat) : Int), oV o])) D.nx := by
              intro o' ho' eo' D hD
              refine ⟨_, rfl, _, rfl, _, rfl, ol, _, _, _, rfl, rfl, ho5, atI_nat ha1, fl, _, _, _, rfl, rfl, SqL.of G5.top, atI_nat (at_range ha2), ?_⟩
              refine ⟨_, rfl, _, rfl, xl, _, _, _, rfl, rfl, sqL_s hx S5, atI_nat hb1, S a, _, _, _, rfl, rfl, SqL.of (G5.st a ha2), atI_nat (at_range hb2), ?_⟩
              refine ⟨_, rfl, _, rfl, yl, _, _, _, rfl, rfl, sqL_s hy S5, atI_nat hd1, A a b, _, _, d, rfl, rfl, G5.rw a b ha2 hb2, ixN_nat (by rw [List.length_map, (G5.ok a b ha2 hb2).1]; exact hd2), ?_⟩
              refine hD _ _ _ _ (G5.put ha2 hb2 hd2 ho') ?_ (S5.own (f1 a b ha2 hb2))
              subst ea eb ed eo'
              exact (D4.put po px py hi8 hx4 hy4 ha2 hb2 (fun a b h1 h2 => (G5.ok a b h1 h2).1) eent).weak fun s x' y' h => by
                rcases h with h | ⟨h1, h2 | ⟨h2, h3⟩⟩
                · exact .inl (.inl h)
                · exact .inl (.inr ⟨h1, .inl h2⟩)
                · rcases Nat.lt_or_ge y' y with h4 | h4
                  · exact .inl (.inr ⟨h1, .inr ⟨h2, h4⟩⟩)
                  · exact .inr ⟨h1, h2, by omega⟩
            cases o with
            | none => exact ite2 (fun _ => fin none (fun m z => nomatch z) rfl _ fun v5 v10 c H' g d' s' => ⟨v5, v10, c, rfl, g, d', s'⟩) (fun z => absurd rfl z)
            | some e =>
              refine ite2 (fun z => absurd (of_decide_eq_true z) (by intro q; cases q)) (fun _ => ?_)
              have he : e < j.length := hrl2 e (List.mem_of_getElem? ho1)
              obtain ⟨q, eq', hq2⟩ : ∃ q, q = os.getD e 0 ∧ q < j.length := ⟨_, rfl, po.lt he⟩
              have hq1 : (os.map nV)[e]? = some (nV q) := by rw [List.getElem?_map, po.at he, ← eq']; rfl
              refine ⟨_, rfl, _, rfl, ol, _, _, _, rfl, rfl, ho5, atI_nat hq1, ?_⟩
              exact fin (some q) (fun m z => by cases z; exact hq2) (by rw [eq']; rfl) _ fun v5 v10 c H' g d' s' => ⟨v5, v10, c, rfl, g, d', s'⟩
          · rintro σ H4 ⟨v5, v10, c4, rfl, G4, D4, S4⟩
            refine ⟨_, _, _, _, c4, rfl, G4, ?_, S4⟩
            intro s x' y' h1 h2 h3 h
            refine D4 s x' y' h1 h2 h3 (h.imp id fun h => ⟨h.1, ?_⟩)
            rcases Nat.lt_or_ge x' x with z | z
            · exact .inl z
            · exact .inr ⟨by omega, by rw [List.length_map, hrl1]; exact h3⟩
        · rintro σ H3 ⟨v5, v6, v9, v10, c3, rfl, G3, D3', S3⟩
          refine ⟨_, _, _, _, _, _, c3, rfl, G3, ?_, S3⟩
          intro s x' y' h1 h2 h3 h
          refine D3' s x' y' h1 h2 h3 ?_
          rcases Nat.lt_or_ge s i with z | z
          · exact .inl z
          · exact .inr ⟨by omega, by rw [hspl, hsl1]; exact h2⟩
      · rintro σ H2 ⟨v5, v6, v7, v8, v9, v10, c, rfl, G2, D2', S2⟩
        refine ⟨_, rfl, fl, rfl, ⟨_, SqL.of G2.top⟩, fun D hD => ?_⟩
        refine lc_list (K := K) (a := fl) (xs := (List.range j.length).map fun a => V.ref (S a)) (fun m H' => ∃ zs, H' D = some (.lst zs) ∧ Paired (StAt K H') zs ((List.range m).map fun a => (List.range nx).map fun b => c a b) ∧ Same H2 H')
          ⟨[], upd_same, .nil, (Same.refl H2).new hD⟩ (fun m H' _ ⟨_, _, _, z⟩ => SqL.of (z fl _ G2.top)) ?_ ?_
        · rintro m sv H3 hsv ⟨zs, h3, hp3, S3⟩
          have hm8 : m < j.length := by have := (List.getElem?_eq_some_iff.mp hsv).1; simpa using this
          rw [at_range hm8] at hsv
          cases hsv
          refine ⟨rfl, tyes ?_⟩
          have hS := G2.st m hm8
          refine ⟨_, rfl, S m, rfl, ⟨_, SqL.of (S3 _ _ hS)⟩, fun D2 hD2 => ?_⟩
          refine lc_list (K := K) (a := S m) (xs := (List.range nx).map fun b => V.ref (A m b)) (fun b H' => ∃ ws, H' D2 = some (.lst ws) ∧ Paired (RowAt K H') ws ((List.range b).map fun b => c m b) ∧ Same H3 H')
            ⟨[], upd_same, .nil, (Same.refl H3).new hD2⟩ (fun b H' _ ⟨_, _, _, z⟩ => SqL.of (z _ _ (S3 _ _ hS))) ?_ ?_
          · rintro b rv H4 hrv ⟨ws, h4, hp4, S4⟩
            have hb4 : b < nx := by have := (List.getElem?_eq_some_iff.mp hrv).1; simpa using this
            rw [at_range hb4] at hrv
            cases hrv
            refine ⟨rfl, tyes ?_⟩
            have hR := S4 _ _ (S3 _ _ (G2.rw m b hm8 hb4))
            refine ⟨_, rfl, A m b, _, rfl, .inl ⟨SqL.of hR, fun tl htl => ?_⟩⟩
            have nt : D2 ≠ tl := ne_of_none h4 htl
            refine ⟨ws, (upd_ne nt).trans h4, ?_, ?_⟩
            · have := paired_len hp4
              simp at this
              exact Nat.lt_of_le_of_lt (show ws.length ≤ 1000 by omega) (by decide)
            · have stN := SameT.new (o := .tup ((c m b).map oV)) htl
              have stL := SameT.lst (ys := ws ++ [V.ref tl]) ((upd_ne (o := .tup ((c m b).map oV)) nt).trans h4)
              refine ⟨ws ++ [.ref tl], upd_same, ?_, (S4.new htl).own hD2⟩
              rw [List.range_succ, List.map_append]
              exact paired_snoc (paired_map hp4 fun _ _ x => (x.t stN).t stL) ⟨tl, rfl, stL.seq (SqT.of upd_same)⟩
          · rintro H4 ⟨ws, h4, hp4, S4⟩
            rw [List.length_map, List.length_range] at hp4
            refine ⟨D2, _, rfl, .inl ⟨SqL.of h4, fun tl htl => ?_⟩⟩
            have h4D := S4 D _ h3
            have nt : D ≠ tl := ne_of_none h4D htl
            refine ⟨zs, (upd_ne nt).trans h4D, ?_, ?_⟩
            · have := paired_len hp3
              simp at this
              exact Nat.lt_of_le_of_lt (show zs.length ≤ 1000 by omega) (by decide)
            · have stN := SameT.new (o := .tup ws) htl
              have stL := SameT.lst (ys := zs ++ [V.ref tl]) ((upd_ne (o := .tup ws) nt).trans h4D)
              refine ⟨zs ++ [.ref tl], upd_same, ?_, ((S3.trans S4).new htl).own hD⟩
              rw [List.range_succ, List.map_append]
              exact paired_snoc (paired_map hp3 fun _ _ x => ((x.t (Same.t S4)).t stN).t stL) ⟨tl, ws, rfl, stL.seq (SqT.of upd_same), paired_map hp4 fun _ _ x => (x.t stN).t stL⟩
        · rintro H3 ⟨zs, h3, hp3, S3⟩
          rw [List.length_map, List.length_range] at hp3
          refine ⟨D, _, rfl, .inl ⟨SqL.of h3, fun tl htl => ?_⟩⟩
          refine k _ _ ((List.range j.length).map fun a => (List.range nx).map fun b => c a b) ((S2.trans S3).new htl) ⟨tl, zs, rfl, SqT.of upd_same, paired_map hp3 fun _ _ x => x.t (SameT.new htl)⟩ (turn_ok ij po px py G2.ok fun s x y h1 h2 h3 => D2' s x y h1 h2 h3 (by rw [hjl]; exact h1))
end
end LA

namespace LA
open PySem L2
open C8 (Cal pe_c)
section
variable {P : Program} {w : World} {K : PySem.W.Frag} {mg : Str → Option Value} {base : Heap}
theorem pe_c0 {X : Cx} {k j : Nat} {x : Str} {sp : Sp} {p pos : Pos} (c : Cal X.prog X.w X.K X.mg X.base k x sp []) (hr : Room j X.A) (hk : k ≤ j) (hg : Gl X x) (hdb : (x == ("__debug__" : Str)) = false := by decide) :
    PE X (.Call (.Name x p) [] [] pos) (tCall sp [] E0 tNil) := by
  obtain ⟨f, fd, ps, ds, F, hm, kp, b, d⟩ := c.ex
  exact pe_call0 F (hr.mono hk) hg hm kp b d pass0 hdb
end
end LA

set_option maxHeartbeats 1000000
namespace LA
open PySem PySem.Spec PyProof.Rows L2
section
variable {X : Cx} {T : String} {name : Str} {id : String} {r : V → List V → Hp → VK → Prop} {o e : Expr} {es : List Expr} {to : TE} {t : TA} {apos cpos : Pos}
end
end LA

set_option maxHeartbeats 1000000
namespace LA
open PySem L2
/-- a search with a stack, among the states -/
structure FnK (j : Jd) (fs ws : List Nat) : Prop where
  nd : fs.Nodup
  lt : ∀ t, t ∈ fs ∨ t ∈ ws → t < j.length ∧ Rch j t
  z : 0 ∈ fs ∨ 0 ∈ ws
  cl : ∀ s ∈ fs, ∀ t ∈ sucs j s, t ∈ fs ∨ t ∈ ws
section
variable {j : Jd} {nx ny : Nat} {fs ws : List Nat}
theorem FnK.start (ij : IsJ j nx ny) : FnK j [] [0] := ⟨List.nodup_nil, fun t h => by
  rcases h with h | h
  · cases h
  · rw [List.mem_singleton.mp h]; exact ⟨ij.n1, 0, rfl⟩, .inr (by simp), nofun⟩
theorem FnK.len (h : FnK j fs ws) : fs.length ≤ j.length := by
  have := nodup_lenD fs (List.range j.length) h.nd fun t ht => List.mem_range.mpr (h.lt t (.inl ht)).1
  rwa [List.length_range] at this
theorem FnK.old {s : Nat} (h : FnK j fs (ws ++ [s])) (hs : s ∈ fs) : FnK j fs ws := by
  have key : ∀ t, t ∈ fs ∨ t ∈ ws ++ [s] → t ∈ fs ∨ t ∈ ws := fun t z => z.elim .inl fun z => (List.mem_append.mp z).elim .inr fun z => .inl (by rw [List.mem_singleton.mp z]; exact hs)
  exact ⟨h.nd, fun t ht => h.lt t (ht.imp id (List.mem_append_left _)), key _ h.z, fun q hq t ht => key _ (h.cl q hq t ht)⟩
theorem FnK.new (ij : IsJ j nx ny) {s : Nat} (h : FnK j fs (ws ++ [s])) (hs : s ∉ fs) : FnK j (fs ++ [s]) (ws ++ sucs j s) ∧ fs.length < j.length := by
  have hsl := h.lt s (.inr (by simp))
  have key : ∀ t, t ∈ fs ∨ t ∈ ws ++ [s] → t ∈ fs ++ [s] ∨ t ∈ ws ++ sucs j s := fun t z => by
    rcases z with z | z
    · exact .inl (List.mem_append_left _ z)
    · rcases List.mem_append.mp z with z | z
      · exact .inr (List.mem_append_left _ z)
      · exact .inl (List.mem_append_right _ z)
  have nd2 : (fs ++ [s]).Nodup := by
    rw [List.nodup_append]
    exact ⟨h.nd, by simp, fun a ha b hb => by rw [List.mem_singleton.mp hb]; exact fun e => hs (e ▸ ha)⟩
  have old : ∀ t, t ∈ fs ++ [s] → t < j.length ∧ Rch j t := fun t ht => by
    rcases List.mem_append.mp ht with z | z
    · exact h.lt t (.inl z)
    · rw [List.mem_singleton.mp z]; exact hsl
  refine ⟨⟨nd2, fun t ht => ?_, key _ h.z, fun q hq t ht => ?_⟩, ?_⟩
  · rcases ht with z | z
    · exact old t z
    · rcases List.mem_append.mp z with z | z
      · exact h.lt t (.inr (List.mem_append_left _ z))
      · exact ⟨(let ⟨k, f⟩ := hsl.2.step z; rch_lt ij k t f), hsl.2.step z⟩
  · rcases List.mem_append.mp hq with z | z
    · exact key _ (h.cl q z t ht)
    · obtain rfl := List.mem_singleton.mp z
      exact .inr (List.mem_append_right _ ht)
  · have := nodup_lenD (fs ++ [s]) (List.range j.length) nd2 fun t ht => List.mem_range.mpr (old t ht).1
    simp at this; omega
theorem FnK.all (h : FnK j fs []) (t : Nat) : t ∈ fs ↔ Rch j t := by
  refine ⟨fun z => (h.lt t (.inl z)).2, ?_⟩
  rintro ⟨k, f⟩
  induction k generalizing t with
  | zero => have : t = 0 := f; subst this; exact h.z.elim id fun z => by cases z
  | succ k ih =>
    rcases f with f | ⟨s, fs', ht⟩
    · exact ih t f
    · exact (h.cl s (ih s fs') t ht).elim id fun z => by cases z
end
end LA

set_option maxHeartbeats 4000000
namespace LA
open PySem PySem.Spec PyProof.Rows L2
section
variable {prog : Program} {w : World} {A : Around} {E : Value → Shared → Prop} {s : Shared} {z TI TO i1 i2 : Addr} {fp1 fp2 : List Addr} {n1 n2 i : Nat} {P1 P2 : Nat → Value → Prop} {St1 St2 : Nat → Heap → Prop} {v a1 a2 : Value} {f : Bool}
end
end LA

set_option maxHeartbeats 1000000
namespace LA
open PySem PySem.Spec PyProof.Rows L2
section
variable {prog : Program} {w : World} {A : Around} {E : Value → Shared → Prop} {s : Shared} {z TI TO i1 i2 : Addr} {fp1 fp2 : List Addr} {n1 n2 i : Nat} {P1 P2 : Nat → Value → Prop} {St1 St2 : Nat → Heap → Prop} {v a1 a2 : Value} {f : Bool}
end
end LA

set_option maxHeartbeats 2000000
namespace LA
open PySem L2
/-- the masks: 2 ^ n - 1 -/
def MkOk (m : Nat) : Prop := ∃ n, 3 ≤ n ∧ n ≤ 17 ∧ m + 1 = 2 ^ n
theorem way_in (m : Nat) (h : Int) (k : Nat) : way m h k ≤ m := by
  have hi : SetTable.bits h % (m + 1) ≤ m := Nat.le_of_lt_succ (Nat.mod_lt _ (Nat.succ_pos _))
  have q := nth_in (m := m) k (runAt m (SetTable.bits h % (m + 1)) (SetTable.bits h)) (by
    have r := runEnd_bd hi
    simp only [runAt]; omega)
  exact Nat.le_trans (Nat.le_add_right _ _) q
/-- a table in which all are found again by their hashes -/
structure TbOk (t : SetTable) (hs : List Int) : Prop where
  ris : Ris t.place.toList
  dm : t.dummies = #[]
  sz : t.place.size = hs.length
  mok : MkOk t.mask
  bd : ∀ x ∈ t.place.toList, x ≤ t.mask
  rc : ∀ (i : Nat) (h : Int) (j : Nat), hs[i]? = some h → t.place.toList[i]? = some j → ∃ k, way t.mask h k = j ∧ ∀ k', k' < k → way t.mask h k' ∈ t.place.toList
section
variable {t : SetTable} {hs : List Int}
theorem TbOk.ahead (T : TbOk t hs) {h : Int} {K i j : Nat} (hK : way t.mask h K ∉ t.place.toList) (hi : hs[i]? = some h) (hj : t.place.toList[i]? = some j) : ∃ k, k < K ∧ way t.mask h k = j := by
  obtain ⟨k, e, hb⟩ := T.rc i h j hi hj
  refine ⟨k, Nat.lt_of_not_le fun c => ?_, e⟩
  rcases Nat.eq_or_lt_of_le c with c | c
  · rw [c, e] at hK
    exact hK (List.mem_of_getElem? hj)
  · exact hK (hb K c)
theorem TbOk.put (T : TbOk t hs) {h : Int} {K p : Nat} (hK : way t.mask h K ∉ t.place.toList) (hb : ∀ k, k < K → way t.mask h k ∈ t.place.toList) (hp : SetTable.below t.place (way t.mask h K) = p) :
    (t.put (way t.mask h K)).2 = p ∧ p ≤ hs.length ∧ TbOk (t.put (way t.mask h K)).1 (hs.take p ++ h :: hs.drop p) ∧
    (t.put (way t.mask h K)).1.mask = t.mask ∧ (t.put (way t.mask h K)).1.led = t.led ∧ (t.put (way t.mask h K)).1.plain = t.plain ∧ (t.put (way t.mask h K)).1.fill = hs.length + 1 := by
  have hjm := way_in t.mask h K
  generalize hj : way t.mask h K = j at hK hjm hp ⊢
  have c1 := (below_cut T.ris j).1
  have hnp : t.place[SetTable.below t.place j]? ≠ some j := fun e => hK (List.mem_of_getElem? (by rw [Array.getElem?_toList]; exact e))
  have r2 := ris_insert T.ris hnp
  have hpp := put_place t j
  have hdm := put_dm T.dm j
  rw [hp] at c1 hpp
  have hsz : t.place.toList.length = hs.length := by rw [Array.length_toList]; exact T.sz
  have hpl : p ≤ t.place.toList.length := by rw [Array.length_toList]; exact c1
  have hph : p ≤ hs.length := by omega
  have hsize : (t.put j).1.place.size = hs.length + 1 := by rw [← Array.length_toList, hpp, len_ins _ hpl, hsz]
  have up : ∀ x, x ∈ t.place.toList → x ∈ (t.put j).1.place.toList := fun x hx => by rw [hpp]; exact mem_ins.mpr (.inr hx)
  refine ⟨hp, hph, ⟨r2, hdm, by rw [len_ins _ hph]; exact hsize, T.mok, fun x hx => ?_, fun i h' j' h1 h2 => ?_⟩, rfl, rfl, rfl, ?_⟩
  · rw [hpp] at hx
    rcases mem_ins.mp hx with rfl | z
    · exact hjm
    · exact T.bd x z
  · rw [tins_get hs hph] at h1
    rw [hpp, tins_get _ hpl] at h2
    show ∃ k, way t.mask h' k = j' ∧ ∀ k', k' < k → way t.mask h' k' ∈ (t.put j).1.place.toList
    split at h1
    · rename_i c
      rw [if_pos c] at h2
      obtain ⟨k, e, z⟩ := T.rc i h' j' h1 h2
      exact ⟨k, e, fun k' hk' => up _ (z k' hk')⟩
    · rename_i c
      rw [if_neg c] at h2
      split at h1
      · rename_i d
        rw [if_pos d] at h2
        cases h1; cases h2
        exact ⟨K, hj, fun k' hk' => up _ (hb k' hk')⟩
      · rename_i d
        rw [if_neg d] at h2
        obtain ⟨k, e, z⟩ := T.rc (i - 1) h' j' h1 h2
        exact ⟨k, e, fun k' hk' => up _ (z k' hk')⟩
  · show (t.put j).1.place.size + (t.put j).1.dummies.size = _
    rw [hsize, hdm]; rfl
end
end LA

set_option maxHeartbeats 4000000
namespace LA
open PySem PySem.Spec PyProof.Rows L2
mutual
def noTx : NestedKey → Bool
  | .none => true
  | .num _ => true
  | .text _ => false
  | .tup ks => noTxs ks
def noTxs : List NestedKey → Bool
  | [] => true
  | k :: ks => noTx k && noTxs ks
end
/-- the tuple at a is the key k, which holds no text -/
def NkT (h : Heap) (k : NestedKey) (a : Addr) : Prop := NestedIs h k (.ref a) ∧ k.depth ≤ 8 ∧ noTx k = true
theorem NkT.keep {h h' : Heap} {k : NestedKey} {a : Addr} (x : NkT h k a) (hk : ∀ b o, h.get? b = some o → h'.get? b = some o) : NkT h' k a :=
  ⟨NestedIs.at (fun b o _ _ e _ => hk b o e) k _ x.1, x.2⟩
theorem NkT.same {h h' : Heap} {k : NestedKey} {a b : Addr} {o : Obj} {es : Array (Int × Value)} {ep : Nat} {t : SetTable} (x : NkT h k b) (ho : h.get? a = some o) (hd : o.data = .set es ep t) (hs : Heap.SameBut a h h') : NkT h' k b :=
  ⟨NestedIs.at (fun c u vs n e z => (hs.2 c (fun q => by subst q; rw [ho] at e; cases e; rw [hd] at z; cases z)).trans e) k _ x.1, x.2⟩
section
variable {P : Program} {w : World} {A : Around} {E : Value → Shared → Prop} {s : Shared}
abbrev SnL := List (Addr × NestedKey)
abbrev hsN (w : World) (L : SnL) : List Int := L.map fun p => p.2.hash w
def rowsN (w : World) (L : SnL) : List (Int × Value) := L.map fun p => (p.2.hash w, Value.ref p.1)
/-- the masks that come -/
def MsOk (m : Nat) : Prop := m = 7 ∨ m = 31 ∨ m = 127 ∨ m = 511 ∨ m = 2047 ∨ m = 8191
theorem MsOk.mk {m : Nat} (h : MsOk m) : MkOk m := by
  rcases h with rfl | rfl | rfl | rfl | rfl | rfl
  · exact ⟨3, by decide, by decide, rfl⟩
  · exact ⟨5, by decide, by decide, rfl⟩
  · exact ⟨7, by decide, by decide, rfl⟩
  · exact ⟨9, by decide, by decide, rfl⟩
  · exact ⟨11, by decide, by decide, rfl⟩
  · exact ⟨13, by decide, by decide, rfl⟩
structure SetNR (w : World) (h : Heap) (a : Addr) (L : SnL) (es : Array (Int × Value)) (ep : Nat) (t : SetTable) : Prop where
  ob : ∃ o, h.get? a = some o ∧ o.ExactSet ∧ o.data = .set es ep t
  rows : es.toList = rowsN w L
  tab : TbOk t (hsN w L)
  ms : MsOk t.mask
  nd : (L.map (·.2)).Nodup
  plain : t.plain = true
  led : w.params.followText "set-order" = true ∨ t.led = true
  room : L.length * 5 < t.mask * 3
  few : L.length < 4096
variable {a : Addr} {L : SnL} {es : Array (Int × Value)} {ep : Nat} {t : SetTable}
end
end LA

set_option maxHeartbeats 4000000
namespace LA
open PySem PySem.Spec PyProof.Rows L2
section
variable {P : Program} {w : World} {A : Around} {E : Value → Shared → Prop} {s : Shared} {a : Addr} {L : SnL} {es : Array (Int × Value)} {ep : Nat} {t : SetTable}
end
structure SetN0 (w : World) (h : Heap) (a : Addr) (L : SnL) : Prop where
  ex : ∃ (es : Array (Int × Value)) (ep : Nat) (t : SetTable), SetNR w h a L es ep t
/-- a set of tuples -/
def SetNO (w : World) (a : Addr) (L : SnL) : HO := .ext fun h => SetN0 w h a L
theorem SetNR.keep {w : World} {h h' : Heap} {a : Addr} {L : SnL} {es : Array (Int × Value)} {ep : Nat} {t : SetTable} (R : SetNR w h a L es ep t) (ha : ∀ o, h.get? a = some o → h'.get? a = some o) : SetNR w h' a L es ep t :=
  ⟨let ⟨o, ho, r⟩ := R.ob; ⟨o, ha o ho, r⟩, R.rows, R.tab, R.ms, R.nd, R.plain, R.led, R.room, R.few⟩
/-- the members are tuples -/
def KeysS (K : PySem.W.Frag) (H : Hp) (L : SnL) : Prop := ∀ p ∈ L, NkV K H (.ref p.1) p.2 ∧ p.2.depth ≤ 8 ∧ noTx p.2 = true
theorem KeysS.t {K : PySem.W.Frag} {H H' : Hp} {L : SnL} (h : KeysS K H L) (s : SameT H H') : KeysS K H' L := fun l hl => ⟨(h l hl).1.t s, (h l hl).2⟩
theorem KeysS.sub {K : PySem.W.Frag} {H : Hp} {L L' : SnL} (h : KeysS K H L) (s : ∀ p ∈ L', p ∈ L) : KeysS K H L' := fun l hl => h l (s l hl)
/-- one put in -/
def PutS (x : Addr) (k : NestedKey) (L L' : SnL) : Prop := (k ∈ L.map (·.2) → L' = L) ∧ (k ∉ L.map (·.2) → L'.Perm ((x, k) :: L))
section
variable {X : Cx} {pins : List (Addr × Obj)} {σ : L2.St} {H : Hp} {s : Shared}
/-- s.add(k) -/
def rSAddN (K : PySem.W.Frag) (w : World) : V → List V → Hp → VK → Prop := fun x xs H Q => ∃ (a b : Addr) (k : NestedKey) (L : SnL), x = V.ref a ∧ xs = [V.ref b] ∧ H a = some (SetNO w a L) ∧ KeysS K H L ∧ NkV K H (.ref b) k ∧ k.depth ≤ 8 ∧ noTx k = true ∧ L.length + 1 < 4096 ∧
  ∀ L', PutS b k L L' → Q .non (upd H a (SetNO w a L'))
end
end LA

set_option maxHeartbeats 4000000
namespace LA
open PySem PySem.Spec PySem.W PySem.Calls PyProof.Rows SeqAt
open L2 (wp_if_neg)
section
variable {prog : Program} {w : World} {A : Around} {E : Value → Shared → Prop} {s : Shared}
end
end LA

set_option maxHeartbeats 4000000
namespace LA
open PySem PySem.Spec PyProof.Rows
section
variable {P : Program} {w : World} {A : Around} {E : Value → Shared → Prop} {s : Shared} {β : Type} {vs : List Value} {bs : List β} {enc : β → PyData} {R : Value → β → Prop}
end
open L2
section
variable {X : Cx}
/-- sorted(set) -/
def rSortedST (K : PySem.W.Frag) (w : World) : List V → Hp → VK → Prop := fun vs H Q => ∃ (a : Addr) (L : SnL), vs = [.ref a] ∧ H a = some (SetNO w a L) ∧ KeysS K H L ∧ W.AllAlike (L.map fun l => nkD l.2) ∧ (∀ l ∈ L, ∃ xs, nkD l.2 = .tuple xs) ∧ (∀ l ∈ L, (nkD l.2).depth ≤ 9) ∧
  ∀ (L0 : SnL) p, L0.Perm L → (L0.map (·.2)).Nodup → H p = none → Q (.ref p) (upd H p (.lst ((L0.mergeSort (W.dataLe false fun l => nkD l.2)).map fun l => V.ref l.1)))
end
/-- what a set has got of the first i items -/
structure GotN (ks : SnL) (i : Nat) (L : SnL) : Prop where
  sub : ∀ p ∈ L, p ∈ ks.take i
  all : ∀ p ∈ ks.take i, p.2 ∈ L.map (·.2)
  len : L.length ≤ i
theorem GotN.zero (ks : SnL) : GotN ks 0 [] := ⟨nofun, fun p h => by simp at h, Nat.le_refl _⟩
theorem GotN.put {ks L L' : SnL} {i : Nat} {x : Addr × NestedKey} (g : GotN ks i L) (h : ks[i]? = some x) (c1 : x.2 ∈ L.map (·.2) → L' = L) (c2 : x.2 ∉ L.map (·.2) → L'.Perm (x :: L)) : GotN ks (i + 1) L' := by
  have e : ks.take (i + 1) = ks.take i ++ [x] := by rw [List.take_add_one, h]; rfl
  by_cases c : x.2 ∈ L.map (·.2)
  · obtain rfl := c1 c
    refine ⟨fun p hp => by rw [e]; exact List.mem_append_left _ (g.sub p hp), fun p hp => ?_, Nat.le_succ_of_le g.len⟩
    rw [e] at hp
    rcases List.mem_append.mp hp with z | z
    · exact g.all p z
    · obtain rfl := List.mem_singleton.mp z
      exact c
  · have pm := c2 c
    refine ⟨fun p hp => ?_, fun p hp => ?_, by rw [pm.length_eq]; exact Nat.succ_le_succ g.len⟩
    · rw [e]
      rcases List.mem_cons.mp (pm.mem_iff.mp hp) with rfl | z
      · exact List.mem_append_right _ (List.mem_singleton.mpr rfl)
      · exact List.mem_append_left _ (g.sub p z)
    · rw [(pm.map (·.2)).mem_iff, List.map_cons]
      rw [e] at hp
      rcases List.mem_append.mp hp with z | z
      · exact List.mem_cons_of_mem _ (g.all p z)
      · obtain rfl := List.mem_singleton.mp z
        exact List.mem_cons_self
section
variable {P : Program} {w : World} {A : Around} {E : Value → Shared → Prop}
end
/-- the keys of ks, each once -/
structure SetOfN (ks L : SnL) : Prop where
  sub : ∀ p ∈ L, p ∈ ks
  all : ∀ p ∈ ks, p.2 ∈ L.map (·.2)
  nd : (L.map (·.2)).Nodup
  len : L.length ≤ ks.length
theorem GotN.of {ks L : SnL} (g : GotN ks ks.length L) (nd : (L.map (·.2)).Nodup) : SetOfN ks L := ⟨fun p hp => List.mem_of_mem_take (g.sub p hp), fun p hp => g.all p (by rw [List.take_length]; exact hp), nd, g.len⟩
end LA

set_option maxHeartbeats 4000000
namespace LA
open PySem PySem.Spec PyProof.Rows L2
section
variable {X : Cx}
end
end LA

set_option maxHeartbeats 1000000
namespace LA
open PySem PySem.Spec PyProof.Rows L2
/-- things that are keys, which sort -/
structure EncT (α : Type) where
  enc : α → NestedKey
  inj : ∀ a b, enc a = enc b → a = b
  dp : ∀ a, (enc a).depth ≤ 8
  tx : ∀ a, noTx (enc a) = true
  tup : ∀ a, ∃ xs, nkD (enc a) = .tuple xs
  dp9 : ∀ a, (nkD (enc a)).depth ≤ 9
  like : ∀ a b, W.alike (nkD (enc a)) (nkD (enc b)) = true
  toks : ∀ a b, W.keyToks (nkD (enc a)) = W.keyToks (nkD (enc b)) → a = b
section
variable {α : Type} (e : EncT α)
abbrev leE : α → α → Bool := W.dataLe false fun a => nkD (e.enc a)
def ltE (a b : α) : Prop := leE e a b = true ∧ a ≠ b
theorem leE_total : W.TotalLe (leE e) := W.sortLe_total _ _ _
theorem leE_anti {a b : α} (h1 : leE e a b = true) (h2 : leE e b a = true) : a = b := by
  have h1' : (!PyProof.Rows.lexLt itemOrd (W.keyToks (nkD (e.enc b))) (W.keyToks (nkD (e.enc a)))) = true := h1
  have h2' : (!PyProof.Rows.lexLt itemOrd (W.keyToks (nkD (e.enc a))) (W.keyToks (nkD (e.enc b)))) = true := h2
  rw [Bool.not_eq_true'] at h1' h2'
  exact e.toks _ _ ((listOrd itemOrd).total _ _ h2' h1')
theorem ltE_irr (a : α) : ¬ ltE e a a := fun h => h.2 rfl
theorem ltE_trans (a b c : α) (h1 : ltE e a b) (h2 : ltE e b c) : ltE e a c := ⟨(leE_total e).trans _ _ _ h1.1 h2.1, fun z => by subst z; exact h1.2 (leE_anti e h1.1 h2.1)⟩
noncomputable def sortE (l : List α) : List α := l.mergeSort (leE e)
theorem sortE_perm (l : List α) : (sortE e l).Perm l := List.mergeSort_perm l _
theorem sortE_strict {l : List α} (h : l.Nodup) : (sortE e l).Pairwise (ltE e) :=
  List.Pairwise.imp₂ (fun a b x y => ⟨x, y⟩) (W.sort_pairwise (leE_total e) l) (List.nodup_iff_pairwise_ne.mp ((sortE_perm e l).nodup_iff.mpr h))
theorem ltE_nodup {l : List α} (h : l.Pairwise (ltE e)) : l.Nodup := List.nodup_iff_pairwise_ne.mpr (h.imp fun z => z.2)
theorem ltE_eq {l m : List α} (h1 : l.Pairwise (ltE e)) (h2 : m.Pairwise (ltE e)) (h : ∀ a, a ∈ l ↔ a ∈ m) : l = m := strict_eq (ltE_irr e) (ltE_trans e) h1 h2 h
/-- v is the thing a -/
def EAt (K : PySem.W.Frag) (H : Hp) (v : V) (a : α) : Prop := ∃ p, v = .ref p ∧ NkV K H v (e.enc a)
theorem EAt.t {K : PySem.W.Frag} {H H' : Hp} {v : V} {a : α} (h : EAt e K H v a) (s : SameT H H') : EAt e K H' v a := let ⟨p, z, k⟩ := h; ⟨p, z, k.t s⟩
theorem snl_back {K : PySem.W.Frag} {H : Hp} : ∀ {ks : SnL} {as : List α}, KeysS K H ks → ks.map (·.2) = as.map e.enc → Paired (EAt e K H) (ks.map fun p => V.ref p.1) as
  | [], [], _, _ => .nil
  | [], _ :: _, _, h => by cases h
  | _ :: _, [], _, h => by cases h
  | p :: ks, a :: as, hk, h => by
    injection h with h1 h2
    have := (hk p List.mem_cons_self).1
    rw [show p.2 = e.enc a from h1] at this
    exact .cons ⟨p.1, rfl, this⟩ (snl_back (fun q hq => hk q (List.mem_cons_of_mem _ hq)) h2)
theorem snl_premises {L : SnL} {as : List α} (h : ∀ p ∈ L, ∃ a ∈ as, p.2 = e.enc a) : W.AllAlike (L.map fun l => nkD l.2) ∧ (∀ l ∈ L, ∃ xs, nkD l.2 = .tuple xs) ∧ ∀ l ∈ L, (nkD l.2).depth ≤ 9 := by
  refine ⟨fun d hd d' hd' => ?_, fun l hl => ?_, fun l hl => ?_⟩
  · obtain ⟨l, hl, rfl⟩ := List.mem_map.mp hd
    obtain ⟨l', hl', rfl⟩ := List.mem_map.mp hd'
    obtain ⟨a, _, z⟩ := h l hl
    obtain ⟨a', _, z'⟩ := h l' hl'
    rw [z, z']; exact e.like a a'
  · obtain ⟨a, _, z⟩ := h l hl
    rw [z]; exact e.tup a
  · obtain ⟨a, _, z⟩ := h l hl
    rw [z]; exact e.dp9 a
theorem keys_back {L : SnL} {as : List α} (h : ∀ p ∈ L, ∃ a ∈ as, p.2 = e.enc a) : ∃ bs : List α, L.map (·.2) = bs.map e.enc ∧ ∀ b ∈ bs, b ∈ as := by
  induction L with
  | nil => exact ⟨[], rfl, nofun⟩
  | cons p L ih =>
    obtain ⟨bs, h1, h2⟩ := ih fun q hq => h q (List.mem_cons_of_mem _ hq)
    obtain ⟨a, ha, z⟩ := h p List.mem_cons_self
    refine ⟨a :: bs, by rw [List.map_cons, List.map_cons, h1, z], fun b hb => ?_⟩
    rcases List.mem_cons.mp hb with rfl | hb
    · exact ha
    · exact h2 b hb
theorem sort_snl {K : PySem.W.Frag} {H : Hp} {L : SnL} {as : List α} (h : L.map (·.2) = as.map e.enc) (hk : KeysS K H L) : Paired (EAt e K H) ((L.mergeSort (W.dataLe false fun l => nkD l.2)).map fun l => V.ref l.1) (sortE e as) := by
  refine snl_back e (fun p hp => hk p ((List.mergeSort_perm L _).mem_iff.mp hp)) ?_
  have a1 := W.sort_maps (fun l : Addr × NestedKey => l.2) (r := W.dataLe false fun l : Addr × NestedKey => nkD l.2) (s := W.dataLe false nkD) (l := L) fun _ _ _ _ => rfl
  have a2 := W.sort_maps e.enc (r := leE e) (s := W.dataLe false nkD) (l := as) fun _ _ _ _ => rfl
  unfold sortE
  rw [a1, a2, h]
/-- what sorted(set(..)) gives -/
structure SrtS (as bs : List α) : Prop where
  lt : bs.Pairwise (ltE e)
  mem : ∀ a, a ∈ bs ↔ a ∈ as
theorem SrtS.uniq {as bs cs : List α} (h : SrtS e as bs) (k : SrtS e as cs) : bs = cs := ltE_eq e h.lt k.lt fun a => (h.mem a).trans (k.mem a).symm
/-- sorted(s), s a set of such things -/
theorem srt_of {K : PySem.W.Frag} {w : World} {H : Hp} {a : Addr} {L : SnL} {as : List α} {Q : VK} (ha : H a = some (SetNO w a L)) (hk : KeysS K H L) (h1 : ∀ p ∈ L, ∃ b ∈ as, p.2 = e.enc b) (h2 : ∀ b ∈ as, e.enc b ∈ L.map (·.2))
    (q : ∀ (p : Addr) (vs : List V) (bs : List α) (H' : Hp), H p = none → Same H H' → H' p = some (.lst vs) → Paired (EAt e K H') vs bs → SrtS e as bs → Q (.ref p) H') : rSortedST K w [.ref a] H Q := by
  obtain ⟨a1, a2, a3⟩ := snl_premises e h1
  refine ⟨a, L, rfl, ha, hk, a1, a2, a3, fun L0 p pm nd hp => ?_⟩
  have h0 : ∀ l ∈ L0, ∃ b ∈ as, l.2 = e.enc b := fun l hl => h1 l (pm.mem_iff.mp hl)
  obtain ⟨bs, e1, e2⟩ := keys_back e h0
  have ndb : bs.Nodup := by
    rw [e1] at nd
    exact nodup_of_map nd
  have T := sm (o := .lst ((L0.mergeSort (W.dataLe false fun l => nkD l.2)).map fun l => V.ref l.1)) hp
  refine q p _ (sortE e bs) _ hp T upd_same (paired_map (sort_snl e e1 (hk.sub fun l hl => pm.mem_iff.mp hl)) fun _ _ z => z.t e (Same.t T)) ⟨sortE_strict e ndb, fun b => ?_⟩
  rw [(sortE_perm e bs).mem_iff]
  refine ⟨e2 b, fun hb => ?_⟩
  have := (pm.map (·.2)).mem_iff.mpr (h2 b hb)
  rw [e1] at this
  obtain ⟨c, hc, z⟩ := List.mem_map.mp this
  rw [← e.inj _ _ z]; exact hc
end
theorem noTx_w : ∀ S : List Nat, noTx (wK S) = true := fun S => by
  simp only [wK, noTx]
  induction S with
  | nil => rfl
  | cons k S ih => simp [noTxs, noTx, numK, ih]
def eWord : EncT (List Nat) where
  enc := wK
  inj _ _ := wK_inj
  dp S := by simp only [wK, NestedKey.depth, depth_ints S]; omega
  tx := noTx_w
  tup S := ⟨S.map nD, by rw [nkD_w]; rfl⟩
  dp9 S := by rw [nkD_w]; simp only [wD, PyData.depth, depthN]; omega
  like a b := by rw [nkD_w, nkD_w]; simp [wD, W.alike, alike_w a b]
  toks a b h := by
    rw [nkD_w, nkD_w] at h
    have h' : W.keyToksAll (a.map nD) ++ [] = W.keyToksAll (b.map nD) ++ [] := by
      simp only [wD, W.keyToks] at h
      rw [h]
    exact (wtoks_inj a b [] [] h').1
theorem eWord_at {K : PySem.W.Frag} {H : Hp} {v : V} {S : List Nat} : EAt eWord K H v S ↔ WordAt K H v S :=
  ⟨fun ⟨_, _, k⟩ => key_w k, fun h => by obtain ⟨a, rfl, q⟩ := id h; exact ⟨a, rfl, w_key h⟩⟩
end LA

set_option maxHeartbeats 1000000
namespace LA
open PySem PySem.Spec PyProof.Rows L2
/-- their data -/
def prD (p : Nat × List Nat) : PyData := .tuple [.int (p.1 : Int), wD p.2]
theorem PrAt.dp {K : PySem.W.Frag} {H : Hp} {v : V} {p : Nat × List Nat} (h : PrAt K H v p) : Dp K H v (prD p) := by
  obtain ⟨a, b, rfl, q, w⟩ := h
  exact .tup q (.cons (.int _) (.cons w.dp .nil))
end LA

set_option maxHeartbeats 1000000
namespace LA
open PySem L2
end LA

set_option maxHeartbeats 1000000
namespace LA
open PySem L2
structure ClosW (j : Jd) (nx k : Nat) (G : Nat → List Nat → Prop) : Prop where
  ok : ∀ s w, G s w → s < j.length ∧ w.length = k ∧ ∀ x ∈ w, x < nx
  go : ∀ s w, G s w → ∀ x, x < nx → ∃ t, some t ∈ rowJ j s ((w ++ [x]).headD 0) ∧ G t (w ++ [x]).tail
def SafeW (j : Jd) (nx k s : Nat) (w : List Nat) : Prop := ∃ G, ClosW j nx k G ∧ G s w
theorem ansOk_iff {S : Nat → Nat → Bool} {row : Rw} {r : Nat} : ansOk S row r = true ↔ ∃ t, some t ∈ row ∧ S t r = true := by
  unfold ansOk
  rw [List.any_eq_true]
  constructor
  · rintro ⟨o, h1, h2⟩
    cases o with
    | none => cases h2
    | some t => exact ⟨t, h1, h2⟩
  · rintro ⟨t, h1, h2⟩
    exact ⟨some t, h1, h2⟩
theorem word_step {nx k p x : Nat} (hp : p < nx ^ k) (hx : x < nx) : (p * nx + x) / nx ^ k = ((wAt nx k p) ++ [x]).headD 0 ∧ wAt nx k ((p * nx + x) % nx ^ k) = ((wAt nx k p) ++ [x]).tail ∧ (p * nx + x) % nx ^ k < nx ^ k := by
  have hpos : 0 < nx ^ k := by omega
  have hW : p * nx + x < nx * nx ^ k := by
    have h1 : (p + 1) * nx ≤ nx ^ k * nx := Nat.mul_le_mul_right _ hp
    rw [Nat.add_mul, Nat.one_mul] at h1
    rw [Nat.mul_comm nx]; omega
  have e := wAt_last (k := k) hp hx
  rw [wAt_first hW] at e
  rw [← e]
  exact ⟨rfl, rfl, Nat.mod_lt _ hpos⟩
theorem safe_word {j : Jd} {nx k s p : Nat} (hx : 1 ≤ nx) (hp : p < nx ^ k) : SafeP j (nx ^ k) nx s p ↔ SafeW j nx k s (wAt nx k p) := by
  constructor
  · rintro ⟨S, h1, h2, h3⟩
    refine ⟨fun s w => ∃ p, p < nx ^ k ∧ w = wAt nx k p ∧ S s p = true, ⟨fun s w ⟨p, a, b, c⟩ => ?_, fun s w ⟨p, a, b, c⟩ x hx => ?_⟩, p, hp, rfl, h3⟩
    · have := (mem_allW nx k w).mp (by rw [b]; exact wAt_mem a)
      exact ⟨(h1 s p c).1, this.1, this.2⟩
    · subst b
      have := h2 s p (h1 s p c).1 a c x hx
      unfold okW at this
      obtain ⟨t, e1, e2⟩ := ansOk_iff.mp this
      obtain ⟨g1, g2, g3⟩ := word_step a hx
      rw [g1] at e1
      exact ⟨t, e1, _, g3, g2.symm, e2⟩
  · rintro ⟨G, hG, hg⟩
    classical
    refine ⟨fun s p => decide (s < j.length ∧ p < nx ^ k ∧ G s (wAt nx k p)), fun s p h => ?_, fun s p hs hp h x hx => ?_, decide_eq_true ⟨(hG.ok _ _ hg).1, hp, hg⟩⟩
    · have := of_decide_eq_true h
      exact ⟨this.1, this.2.1⟩
    · have h := of_decide_eq_true h
      obtain ⟨t, e1, e2⟩ := hG.go s _ h.2.2 x hx
      obtain ⟨g1, g2, g3⟩ := word_step hp hx
      unfold okW
      refine ansOk_iff.mpr ⟨t, by rw [g1]; exact e1, decide_eq_true ⟨(hG.ok _ _ e2).1, g3, ?_⟩⟩
      rw [g2]; exact e2
/-- enough: the start is safe with each word -/
theorem enough_iff {j : Jd} {nx k : Nat} (hx : 1 ≤ nx) : enoughB j (nx ^ k) nx = true ↔ ∀ w, w.length = k → (∀ x ∈ w, x < nx) → SafeW j nx k 0 w := by
  unfold enoughB
  rw [List.all_map, List.all_eq_true]
  constructor
  · intro h w hl hw
    obtain ⟨p, hp, e⟩ := List.getElem_of_mem ((mem_allW nx k w).mpr ⟨hl, hw⟩)
    rw [allW_len] at hp
    have e2 := wAt_get (X := nx) hp
    rw [List.getElem?_eq_getElem (by rw [allW_len]; exact hp), e] at e2
    have e3 : w = wAt nx k p := Option.some.inj e2
    rw [e3]
    exact (safe_word hx hp).mp (safeB_iff.mp (h p (List.mem_range.mpr hp)))
  · intro h p hp
    have hp := List.mem_range.mp hp
    have hm := (mem_allW nx k _).mp (wAt_mem (X := nx) hp)
    exact safeB_iff.mpr ((safe_word hx hp).mpr (h _ hm.1 hm.2))
theorem row_ent {j : Jd} {s x t : Nat} : some t ∈ rowJ j s x ↔ ∃ y, entJ j s x y = some (some t) := by
  unfold entJ
  rw [List.mem_iff_getElem?]
  have e : ∀ y : Nat, ((j[s]?.bind fun sd => sd[x]?).bind fun r => r[y]?) = (rowJ j s x)[y]? ∨ ((j[s]?.bind fun sd => sd[x]?).bind fun r => r[y]?) = none ∧ rowJ j s x = [] := fun y => by
    unfold rowJ
    cases h1 : j[s]? with
    | none => right; refine ⟨rfl, ?_⟩; simp [h1]
    | some sd =>
      cases h2 : sd[x]? with
      | none => right; refine ⟨by simp [h2], ?_⟩; simp [h1, h2]
      | some r => left; simp [h1, h2]
  constructor
  · rintro ⟨y, h⟩
    rcases e y with z | ⟨_, z⟩
    · exact ⟨y, z.trans h⟩
    · rw [z] at h; simp at h
  · rintro ⟨y, h⟩
    rcases e y with z | ⟨z, _⟩
    · exact ⟨y, z.symm.trans h⟩
    · rw [h] at z; cases z
section
variable {b j : Jd} {nx ny : Nat} {os xs ys : List Nat}
theorem row_turn (tr : TurnR b nx ny os xs ys j) (ib : IsJ b nx ny) {s x t : Nat} (hs : s < b.length) (hx : x < nx) (h : some t ∈ rowJ b s x) : some (os.getD t 0) ∈ rowJ j (os.getD s 0) (xs.getD x 0) := by
  obtain ⟨y, hy⟩ := row_ent.mp h
  have hyl : y < ny := by
    unfold entJ at hy
    cases h1 : b[s]? with
    | none => rw [h1] at hy; cases hy
    | some sd =>
      rw [h1] at hy
      have hy : (sd[x]?).bind (fun r => r[y]?) = some (some t) := hy
      cases h2 : sd[x]? with
      | none => rw [h2] at hy; cases hy
      | some r =>
        rw [h2] at hy
        have hy : r[y]? = some (some t) := hy
        have := ((ib.st sd (List.mem_of_getElem? h1)).2 r (List.mem_of_getElem? h2)).1
        have := (List.getElem?_eq_some_iff.mp hy).1
        omega
  refine row_ent.mpr ⟨ys.getD y 0, ?_⟩
  rw [tr.e s x y hs hx hyl, hy]; rfl
theorem safe_turn (tr : TurnR b nx ny os xs ys j) (ib : IsJ b nx ny) (ho : SeqN b.length os) (hx : SeqN nx xs) {k s : Nat} {w : List Nat} (h : SafeW b nx k s w) : SafeW j nx k (os.getD s 0) (w.map fun x => xs.getD x 0) := by
  obtain ⟨G, hG, hg⟩ := h
  refine ⟨fun s' w' => ∃ s w, s' = os.getD s 0 ∧ w' = w.map (fun x => xs.getD x 0) ∧ G s w, ⟨?_, ?_⟩, s, w, rfl, rfl, hg⟩
  · rintro s' w' ⟨s, w, rfl, rfl, h⟩
    obtain ⟨a, b', c⟩ := hG.ok s w h
    refine ⟨by rw [tr.n]; exact ho.lt a, by rw [List.length_map]; exact b', fun x' hx' => ?_⟩
    obtain ⟨x, h1, rfl⟩ := List.mem_map.mp hx'
    exact hx.lt (c x h1)
  · rintro s' w' ⟨s, w, rfl, rfl, h⟩ x' hx'
    obtain ⟨x, hxl, rfl⟩ := hx.sur hx'
    obtain ⟨a, b', c⟩ := hG.ok s w h
    obtain ⟨t, h1, h2⟩ := hG.go s w h x hxl
    have hh : (w ++ [x]).headD 0 < nx := by
      cases w with
      | nil => exact hxl
      | cons z l => exact c z List.mem_cons_self
    have e : (w.map (fun x => xs.getD x 0) ++ [xs.getD x 0]) = (w ++ [x]).map fun x => xs.getD x 0 := by rw [List.map_append]; rfl
    refine ⟨os.getD t 0, ?_, t, (w ++ [x]).tail, rfl, ?_, h2⟩
    · have := row_turn tr ib a hh h1
      rw [e]
      have e2 : ((w ++ [x]).map fun x => xs.getD x 0).headD 0 = xs.getD ((w ++ [x]).headD 0) 0 := by cases w <;> rfl
      rw [e2]; exact this
    · rw [e, List.map_tail]
theorem enough_turn1 (tr : TurnR b nx ny os xs ys j) (ib : IsJ b nx ny) (ho : SeqN b.length os) (o0 : os.getD 0 0 = 0) (hx : SeqN nx xs) {k : Nat} (h : enoughB b (nx ^ k) nx = true) : enoughB j (nx ^ k) nx = true := by
  rw [enough_iff ib.x1] at h ⊢
  intro w' hl hw'
  have e : w' = (w'.map fun x => (backN nx xs).getD x 0).map fun x => xs.getD x 0 := by
    rw [List.map_map]
    conv => lhs; rw [← List.map_id w']
    exact List.map_congr_left fun x hx' => (at_back hx (hw' x hx')).symm
  have := safe_turn tr ib ho hx (h (w'.map fun x => (backN nx xs).getD x 0) (by rw [List.length_map]; exact hl) fun z hz => by
    obtain ⟨x, h1, rfl⟩ := List.mem_map.mp hz
    exact (back_seq hx).lt (hw' x h1))
  rw [o0, ← e] at this
  exact this
theorem enough_turn (tr : TurnR b nx ny os xs ys j) (ib : IsJ b nx ny) (ho : SeqN b.length os) (o0 : os.getD 0 0 = 0) (hx : SeqN nx xs) (hy : SeqN ny ys) (k : Nat) : enoughB j (nx ^ k) nx = enoughB b (nx ^ k) nx := by
  have tb := tr.back ib ho hx hy
  have b0 : (backN b.length os).getD 0 0 = 0 := by
    have := back_at ho (s := 0) (by have := ib.n1; omega)
    rw [o0] at this; exact this
  have h2 : enoughB j (nx ^ k) nx = true → enoughB b (nx ^ k) nx = true := fun h => enough_turn1 tb tr.ij (by rw [tr.n]; exact back_seq ho) b0 (back_seq hx) h
  have h1 := enough_turn1 tr ib ho o0 hx (k := k)
  cases e1 : enoughB b (nx ^ k) nx <;> cases e2 : enoughB j (nx ^ k) nx <;> simp_all
end
def getT (S : List (List Bool)) (s p : Nat) : Bool := (S.getD s []).getD p false
def stepT (j : Jd) (m X : Nat) (S : List (List Bool)) : List (List Bool) := (List.range j.length).map fun s => (List.range m).map fun p => getT S s p && (List.range X).all fun x => okW j m (getT S) s (p * X + x)
def fullT (n m : Nat) : List (List Bool) := List.replicate n (List.replicate m true)
def iterT (j : Jd) (m X : Nat) : Nat → List (List Bool)
  | 0 => fullT j.length m
  | n + 1 => stepT j m X (iterT j m X n)
theorem get_step {j : Jd} {m X : Nat} {S : List (List Bool)} {s p : Nat} : getT (stepT j m X S) s p = (decide (s < j.length ∧ p < m) && nextS j m X (getT S) s p) := by
  by_cases h : s < j.length ∧ p < m
  · rw [decide_eq_true h, Bool.true_and]
    unfold getT stepT
    simp [h.1, h.2]
    rfl
  · rw [decide_eq_false h, Bool.false_and]
    unfold getT stepT
    by_cases hs : s < j.length
    · have hp : ¬ p < m := fun z => h ⟨hs, z⟩
      simp [hs, hp]
    · simp [hs]
theorem iter_within (j : Jd) (m X : Nat) : ∀ n, Within j.length m (getT (iterT j m X n))
  | 0, s, p, h => by
    unfold iterT fullT getT at h
    by_cases hs : s < j.length
    · by_cases hp : p < m
      · exact ⟨hs, hp⟩
      · simp [hs, hp] at h
    · simp [hs] at h
  | n + 1, s, p, h => by
    unfold iterT at h
    rw [get_step, Bool.and_eq_true] at h
    exact of_decide_eq_true h.1
theorem iter_safe (j : Jd) (m X : Nat) : ∀ n s p, SafeP j m X s p → getT (iterT j m X n) s p = true
  | 0, s, p, h => by
    have := h.lt
    unfold iterT fullT getT
    simp [this.1, this.2]
  | n + 1, s, p, h => by
    unfold iterT
    rw [get_step, decide_eq_true h.lt, Bool.true_and]
    exact next_safe (iter_safe j m X n) s p h
theorem iter_end {j : Jd} {m X n : Nat} (h : iterT j m X (n + 1) = iterT j m X n) : getT (iterT j m X n) = safeB j m X := by
  refine safeB_of (iter_within j m X n) (fun s p hs hp hS x hx => ?_) (iter_safe j m X n)
  rw [← h] at hS
  unfold iterT at hS
  rw [get_step, Bool.and_eq_true] at hS
  have h2 := hS.2
  unfold nextS at h2
  rw [Bool.and_eq_true] at h2
  exact List.all_eq_true.mp h2.2 x (List.mem_range.mpr hx)
def enoughT (j : Jd) (m X n : Nat) : Option Bool := if iterT j m X (n + 1) = iterT j m X n then some ((List.range m).all (getT (iterT j m X n) 0)) else none
theorem enoughT_ok {j : Jd} {m X n : Nat} {b : Bool} (h : enoughT j m X n = some b) : enoughB j m X = b := by
  unfold enoughT at h
  split at h
  · rename_i e
    have := Option.some.inj h
    rw [← this]
    unfold enoughB
    rw [← iter_end e, List.all_map]; rfl
  · cases h
end LA

set_option maxHeartbeats 1000000
namespace LA
open PySem L2
/-- goals that are lost with a rank below n -/
def lostN (rs : List Rel) : Nat → List Nat → Bool
  | 0, _ => false
  | n + 1, G => rs.any fun r => G.all fun g => lostN rs n (r.getD g [])
theorem lost_succ {rs : List Rel} {n : Nat} {G : List Nat} : lostN rs (n + 1) G = true ↔ ∃ r ∈ rs, ∀ g ∈ G, lostN rs n (r.getD g []) = true := by
  show (rs.any fun r => G.all fun g => lostN rs n (r.getD g [])) = true ↔ _
  simp only [List.any_eq_true, List.all_eq_true]
theorem lost_up {rs : List Rel} : ∀ {n : Nat} {G : List Nat}, lostN rs n G = true → lostN rs (n + 1) G = true
  | 0, _, h => nomatch h
  | n + 1, G, h => by
    obtain ⟨r, hr, hg⟩ := lost_succ.mp h
    exact lost_succ.mpr ⟨r, hr, fun g hg' => lost_up (hg g hg')⟩
theorem lost_mono {rs : List Rel} {n m : Nat} {G : List Nat} (hn : n ≤ m) (h : lostN rs n G = true) : lostN rs m G = true := by
  induction hn with
  | refl => exact h
  | step _ ih => exact lost_up ih
end LA

set_option maxHeartbeats 1000000
namespace LA
open PySem L2 LamX
section
variable {K : PySem.W.Frag} {H : Hp} {CT CN CW : Addr} {jv v : V} {j : Jd} {nx ny : Nat} {rs : List Rel} {Q : VK} {E : XK}
end
end LA

set_option maxHeartbeats 1000000
namespace LA
open PySem PySem.Spec PyProof.Rows L2 LamX
section
variable {X : Cx}
end
theorem AllR.sorted {j : Jd} {nx : Nat} {rs : List Rel} (h : AllR j nx rs) : AllR j nx (sortR rs) :=
  ⟨by unfold sortR; exact (List.mergeSort_perm rs _).nodup_iff.mpr h.nd, fun r => by rw [sortR_mem]; exact h.mem r⟩
/-- what stays in k76's right def -/
structure W76 (K : PySem.W.Frag) (H : Hp) (jv fv gv : V) (j : Jd) (rs bs : List Rel) : Prop where
  J : JAt K H jv j
  F : RsAt K H fv (sortR rs)
  G : RsAt K H gv (sortR bs)
theorem W76.t {K : PySem.W.Frag} {H H' : Hp} {jv fv gv : V} {j : Jd} {rs bs : List Rel} (h : W76 K H jv fv gv j rs bs) (t : SameT H H') : W76 K H' jv fv gv j rs bs := ⟨h.J.t t, h.F.t t, h.G.t t⟩
theorem W76.s {K : PySem.W.Frag} {H H' : Hp} {jv fv gv : V} {j : Jd} {rs bs : List Rel} (h : W76 K H jv fv gv j rs bs) (s : Same H H') : W76 K H' jv fv gv j rs bs := h.t (Same.t s)
end LA

set_option maxHeartbeats 4000000
namespace LA
open PySem PySem.Spec PyProof.Rows L2
section
variable {X : Cx}
end
end LA

set_option maxHeartbeats 1000000
namespace LA
open PySem PySem.Spec PyProof.Rows L2 LamX
open Sem (wp)
section
variable {prog : Program} {w : World} {A : Around} {E : Value → Shared → Prop} {s : Shared}
end
section
variable {X : Cx}
end
end LA

set_option maxHeartbeats 1000000
namespace LA
open PySem PySem.Spec PyProof.Rows L2 LamX
/-- relations of n states that are the long ones of some judge: at least one, none twice -/
structure GmR (n : Nat) (rs : List Rel) : Prop where
  ok : ∀ r ∈ rs, IsR n r
  few : rs.length ≤ 2000
  n8 : n ≤ 8
/-- all goals, each once -/
def allG (n : Nat) : List (List Nat) := (List.range (2 ^ n)).map fun k => (List.range n).filter fun i => k.testBit i
theorem mem_allG {n : Nat} {G : List Nat} (h : G.Pairwise (· < ·)) (hl : ∀ g ∈ G, g < n) : G ∈ allG n := by
  have bits : ∀ (n : Nat) (f : Nat → Bool), ∃ k, k < 2 ^ n ∧ ∀ i, i < n → k.testBit i = f i := by
    intro n
    induction n with
    | zero => intro f; exact ⟨0, by simp, fun i hi => by omega⟩
    | succ n ih =>
      intro f
      obtain ⟨k, h1, h2⟩ := ih f
      by_cases hf : f n = true
      · refine ⟨k + 2 ^ n, by rw [Nat.pow_succ]; omega, fun i hi => ?_⟩
        rw [Nat.add_comm]
        rcases Nat.lt_or_ge i n with c | c
        · rw [Nat.testBit_two_pow_add_gt c, h2 i c]
        · have : i = n := by omega
          subst this
          rw [Nat.testBit_two_pow_add_eq, Nat.testBit_lt_two_pow h1, hf]; rfl
      · refine ⟨k, by rw [Nat.pow_succ]; omega, fun i hi => ?_⟩
        rcases Nat.lt_or_ge i n with c | c
        · exact h2 i c
        · have : i = n := by omega
          subst this
          rw [Nat.testBit_lt_two_pow h1]
          cases e : f i with
          | true => exact absurd e hf
          | false => rfl
  obtain ⟨k, h1, h2⟩ := bits n fun i => decide (i ∈ G)
  refine List.mem_map.mpr ⟨k, List.mem_range.mpr h1, ?_⟩
  refine nats_eq (List.Pairwise.filter _ List.pairwise_lt_range) h fun t => ?_
  rw [List.mem_filter, List.mem_range]
  constructor
  · rintro ⟨a, b⟩
    rw [h2 t a] at b
    exact of_decide_eq_true b
  · intro ht
    exact ⟨hl t ht, by rw [h2 t (hl t ht)]; exact decide_eq_true ht⟩
theorem goals_few {n : Nat} {l : List (List Nat)} (hn : n ≤ 8) (nd : l.Nodup) (h : ∀ G ∈ l, G.Pairwise (· < ·) ∧ ∀ g ∈ G, g < n) : l.length ≤ 256 := by
  have h1 := nodup_lenD l (allG n) nd fun G hG => mem_allG (h G hG).1 (h G hG).2
  have h2 : (allG n).length = 2 ^ n := by simp [allG]
  have h3 : 2 ^ n ≤ 2 ^ 8 := Nat.pow_le_pow_right (by decide) hn
  rw [h2] at h1
  have h4 : (2 : Nat) ^ 8 = 256 := by decide
  omega
/-- the states from which a relation is lost -/
def lostS (rs : List Rel) (k : Nat) (r : Rel) : List Nat := (List.range r.length).filter fun s => lostN rs k (r.getD s [])
theorem lostS_mem {rs : List Rel} {k : Nat} {r : Rel} {s : Nat} : s ∈ lostS rs k r ↔ s < r.length ∧ lostN rs k (r.getD s []) = true := by
  unfold lostS
  rw [List.mem_filter, List.mem_range]
/-- what the dict says of lost goals: rank, and a relation to be named -/
def PlV (K : PySem.W.Frag) (H : Hp) (rs : List Rel) (G : List Nat) (v : V) : Prop := ∃ (t : Addr) (rv : V) (m : Nat) (r : Rel), v = .ref t ∧ SqT K H t [nV m, rv] ∧ RAt K H rv r ∧ r ∈ rs ∧ lostN rs m G = false ∧ ∀ g ∈ G, lostN rs m (r.getD g []) = true
theorem PlV.t {K : PySem.W.Frag} {H H' : Hp} {rs : List Rel} {G : List Nat} {v : V} (h : PlV K H rs G v) (s : SameT H H') : PlV K H' rs G v := by
  obtain ⟨t, rv, m, r, h1, h2, h3, h4, h5, h6⟩ := h
  exact ⟨t, rv, m, r, h1, s.seq h2, h3.t s, h4, h5, h6⟩
/-- goals that may occur -/
def OkG (n : Nat) (G : List Nat) : Prop := G.Pairwise (· < ·) ∧ ∀ g ∈ G, g < n
/-- the dict of plans after k rounds -/
structure PlD (K : PySem.W.Frag) (P : Program) (w : World) (H : Hp) (d : Addr) (n : Nat) (rs : List Rel) (Gs : List (List Nat)) (k : Nat) (L : List DnE) (ep : Nat) : Prop where
  at_ : H d = some (DictN P w d L ep)
  keys : KeysN K H L
  nd : (L.map (·.1)).Nodup
  val : ∀ l ∈ L, ∃ G ∈ Gs, OkG n G ∧ l.1 = wK G ∧ lostN rs k G = true ∧ PlV K H rs G l.2.2
  all : ∀ G ∈ Gs, lostN rs k G = true → ∃ l ∈ L, l.1 = wK G
section
variable {K : PySem.W.Frag} {P : Program} {w : World} {H H' : Hp} {d : Addr} {n : Nat} {rs : List Rel} {Gs : List (List Nat)} {k : Nat} {L : List DnE} {ep : Nat}
theorem PlD.same (h : PlD K P w H d n rs Gs k L ep) (s : Same H H') : PlD K P w H' d n rs Gs k L ep :=
  ⟨s _ _ h.at_, h.keys.t (Same.t s), h.nd, fun l hl => let ⟨G, a, b, c, e, f⟩ := h.val l hl; ⟨G, a, b, c, e, f.t (Same.t s)⟩, h.all⟩
theorem PlD.is (h : PlD K P w H d n rs Gs k L ep) {G : List Nat} (hG : G ∈ Gs) : (atN L (wK G)).isSome = lostN rs k G := by
  unfold atN
  rw [Option.isSome_map, Bool.eq_iff_iff, List.find?_isSome]
  constructor
  · rintro ⟨l, hl, e⟩
    obtain ⟨G', _, _, c, e', _⟩ := h.val l hl
    have : G' = G := wK_inj (c.symm.trans (of_decide_eq_true e))
    subst this; exact e'
  · intro e
    obtain ⟨l, hl, c⟩ := h.all G hG e
    exact ⟨l, hl, decide_eq_true c⟩
theorem PlD.get (h : PlD K P w H d n rs Gs k L ep) {G : List Nat} {c : Addr} {v : V} (e : atN L (wK G) = some (c, v)) : PlV K H rs G v := by
  unfold atN at e
  obtain ⟨l, hl, e2⟩ := Option.map_eq_some_iff.mp e
  have hm := List.mem_of_find?_eq_some hl
  have hk : l.1 = wK G := by simpa using List.find?_some hl
  obtain ⟨G', _, _, a, _, b⟩ := h.val l hm
  have : G' = G := wK_inj (a.symm.trans hk)
  subst this
  rw [e2] at b; exact b
theorem PlD.len (h : PlD K P w H d n rs Gs k L ep) (hn : n ≤ 8) : L.length ≤ 256 := by
  have : ∃ gs : List (List Nat), L.map (·.1) = gs.map wK ∧ ∀ G ∈ gs, OkG n G := by
    have hv := h.val
    clear h
    induction L with
    | nil => exact ⟨[], rfl, nofun⟩
    | cons l L ih =>
      obtain ⟨gs, h1, h2⟩ := ih fun x hx => hv x (List.mem_cons_of_mem _ hx)
      obtain ⟨G, _, b, c, _⟩ := hv l List.mem_cons_self
      refine ⟨G :: gs, by rw [List.map_cons, List.map_cons, h1, c], fun x hx => ?_⟩
      rcases List.mem_cons.mp hx with rfl | hx
      · exact b
      · exact h2 x hx
  obtain ⟨gs, h1, h2⟩ := this
  have nd := h.nd
  rw [h1] at nd
  have nd2 : gs.Nodup := by
    rw [List.nodup_iff_pairwise_ne, List.pairwise_map] at nd
    rw [List.nodup_iff_pairwise_ne]
    exact nd.imp fun a e => a (by rw [e])
  have := goals_few hn nd2 h2
  have e := congrArg List.length h1
  rw [List.length_map, List.length_map] at e
  omega
end
/-- lists of goals -/
def GsAt (K : PySem.W.Frag) (H : Hp) (l : Addr) (gs : List (List Nat)) : Prop := ∃ vs, H l = some (.lst vs) ∧ Paired (WordAt K H) vs gs
theorem GsAt.same {K : PySem.W.Frag} {H H' : Hp} {l : Addr} {gs : List (List Nat)} (h : GsAt K H l gs) (s : Same H H') : GsAt K H' l gs := let ⟨vs, a, b⟩ := h; ⟨vs, s _ _ a, paired_map b fun _ _ z => z.t (Same.t s)⟩
/-- the dict of what is newly lost: goals, each with a relation -/
def FdV (K : PySem.W.Frag) (H : Hp) (rs : List Rel) (k : Nat) (l : DnE) (G : List Nat) : Prop := l.1 = wK G ∧ ∃ r ∈ rs, RAt K H l.2.2 r ∧ ∀ g ∈ G, lostN rs k (r.getD g []) = true
theorem FdV.t {K : PySem.W.Frag} {H H' : Hp} {rs : List Rel} {k : Nat} {l : DnE} {G : List Nat} (h : FdV K H rs k l G) (s : SameT H H') : FdV K H' rs k l G := let ⟨a, r, b, c, e⟩ := h; ⟨a, r, b, c.t s, e⟩
structure FdD (K : PySem.W.Frag) (P : Program) (w : World) (H : Hp) (d : Addr) (rs : List Rel) (k : Nat) (gs : List (List Nat)) (L : List DnE) (ep : Nat) : Prop where
  at_ : H d = some (DictN P w d L ep)
  keys : KeysN K H L
  val : Paired (FdV K H rs k) L gs
theorem FdD.same {K : PySem.W.Frag} {P : Program} {w : World} {H H' : Hp} {d : Addr} {rs : List Rel} {k : Nat} {gs : List (List Nat)} {L : List DnE} {ep : Nat} (h : FdD K P w H d rs k gs L ep) (s : Same H H') : FdD K P w H' d rs k gs L ep :=
  ⟨s _ _ h.at_, h.keys.t (Same.t s), paired_map h.val fun _ _ z => z.t (Same.t s)⟩
theorem FdD.fresh {K : PySem.W.Frag} {P : Program} {w : World} {H : Hp} {d : Addr} {rs : List Rel} {k : Nat} {gs : List (List Nat)} {L : List DnE} {ep : Nat} {G : List Nat} (h : FdD K P w H d rs k gs L ep) (hn : G ∉ gs) : atN L (wK G) = none := by
  cases e : atN L (wK G) with
  | none => rfl
  | some q =>
    exfalso
    unfold atN at e
    obtain ⟨l, hl, _⟩ := Option.map_eq_some_iff.mp e
    have hm := List.mem_of_find?_eq_some hl
    have hk : l.1 = wK G := by simpa using List.find?_some hl
    obtain ⟨i, hi, e3⟩ := List.getElem_of_mem hm
    obtain ⟨G', hG', hv⟩ := paired_at h.val (show L[i]? = some l by rw [List.getElem?_eq_getElem hi, e3])
    have : G' = G := wK_inj (hv.1.symm.trans hk)
    subst this
    exact hn (List.mem_of_getElem? hG')
/-- goals newly lost: one more -/
theorem FdD.put {K : PySem.W.Frag} {P : Program} {w : World} {H : Hp} {d b : Addr} {rs : List Rel} {k : Nat} {gs : List (List Nat)} {L : List DnE} {ep ep' : Nat} {G : List Nat} {v : V} {r : Rel} (h : FdD K P w H d rs k gs L ep) (hn : G ∉ gs) (hb : WordAt K H (.ref b) G) (hr : r ∈ rs) (hv : RAt K H v r) (hg : ∀ g ∈ G, lostN rs k (r.getD g []) = true) :
    FdD K P w (upd H d (DictN P w d (storeN L (wK G) b v) ep')) d rs k (gs ++ [G]) (L ++ [(wK G, b, v)]) ep' := by
  have t : SameT H (upd H d (DictN P w d (storeN L (wK G) b v) ep')) := sameT_ext (φ := _) h.at_
  have e : storeN L (wK G) b v = L ++ [(wK G, b, v)] := by unfold storeN; rw [h.fresh hn]; rfl
  refine ⟨by rw [upd_same, e], ?_, paired_snoc (paired_map h.val fun _ _ z => z.t t) ⟨rfl, r, hr, hv.t t, hg⟩⟩
  rw [← e]
  exact (h.keys.store (w_key hb) (wK_depth _)).t t
/-- which entries of the dict of names fit some goals -/
def Fits (rs : List Rel) (k : Nat) (G : List Nat) (l : DnE) : Prop := ∃ r ∈ rs, l.1 = wK (lostS rs k r) ∧ ∀ g ∈ G, g ∈ lostS rs k r
/-- the dict of names: what is lost of each relation, and one of the relations of which just this is lost -/
structure NmD (K : PySem.W.Frag) (P : Program) (w : World) (H : Hp) (d : Addr) (rs : List Rel) (k : Nat) (seen : List Rel) (L : List DnE) (ep : Nat) : Prop where
  at_ : H d = some (DictN P w d L ep)
  keys : KeysN K H L
  len : L.length ≤ seen.length
  val : ∀ l ∈ L, ∃ r ∈ rs, l.1 = wK (lostS rs k r) ∧ RAt K H l.2.2 r
  all : ∀ r ∈ seen, ∃ l ∈ L, l.1 = wK (lostS rs k r)
theorem NmD.same {K : PySem.W.Frag} {P : Program} {w : World} {H H' : Hp} {d : Addr} {rs seen : List Rel} {k : Nat} {L : List DnE} {ep : Nat} (h : NmD K P w H d rs k seen L ep) (s : Same H H') : NmD K P w H' d rs k seen L ep :=
  ⟨s _ _ h.at_, h.keys.t (Same.t s), h.len, fun l hl => let ⟨r, a, b, c⟩ := h.val l hl; ⟨r, a, b, c.t (Same.t s)⟩, h.all⟩
theorem NmD.nil {K : PySem.W.Frag} {P : Program} {w : World} {H : Hp} {d : Addr} {rs : List Rel} {k : Nat} {ep : Nat} (h : H d = some (DictN P w d [] ep)) : NmD K P w H d rs k [] [] ep := ⟨h, nofun, Nat.le_refl _, nofun, nofun⟩
/-- one relation more -/
theorem NmD.put {K : PySem.W.Frag} {P : Program} {w : World} {H : Hp} {d b : Addr} {rs seen : List Rel} {k : Nat} {L : List DnE} {ep ep' : Nat} {r : Rel} {v : V} (h : NmD K P w H d rs k seen L ep) (hr : r ∈ rs) (hb : WordAt K H (.ref b) (lostS rs k r)) (hv : RAt K H v r) :
    NmD K P w (upd H d (DictN P w d (storeN L (wK (lostS rs k r)) b v) ep')) d rs k (seen ++ [r]) (storeN L (wK (lostS rs k r)) b v) ep' := by
  have t : SameT H (upd H d (DictN P w d (storeN L (wK (lostS rs k r)) b v) ep')) := sameT_ext (φ := _) h.at_
  refine ⟨upd_same, (h.keys.store (w_key hb) (wK_depth _)).t t, ?_, fun l hl => ?_, fun r' hr' => ?_⟩
  · have := storeN_len L (wK (lostS rs k r)) b v
    have := h.len
    rw [List.length_append, List.length_singleton]; omega
  · unfold storeN at hl
    by_cases e : (atN L (wK (lostS rs k r))).isSome = true
    · rw [if_pos e] at hl
      obtain ⟨l', hl', rfl⟩ := List.mem_map.mp hl
      unfold putN
      by_cases z : l'.1 = wK (lostS rs k r)
      · rw [if_pos z]; exact ⟨r, hr, z, hv.t t⟩
      · rw [if_neg z]
        obtain ⟨r2, a, b', c⟩ := h.val l' hl'
        exact ⟨r2, a, b', c.t t⟩
    · rw [if_neg e] at hl
      rcases List.mem_append.mp hl with hl | hl
      · obtain ⟨r2, a, b', c⟩ := h.val l hl
        exact ⟨r2, a, b', c.t t⟩
      · rw [List.mem_singleton.mp hl]
        exact ⟨r, hr, rfl, hv.t t⟩
  · have keep : ∀ l ∈ L, ∃ l' ∈ storeN L (wK (lostS rs k r)) b v, l'.1 = l.1 := fun l hl => by
      unfold storeN
      by_cases e : (atN L (wK (lostS rs k r))).isSome = true
      · rw [if_pos e]
        refine ⟨_, List.mem_map.mpr ⟨l, hl, rfl⟩, ?_⟩
        unfold putN; split <;> rfl
      · rw [if_neg e]
        exact ⟨l, List.mem_append_left _ hl, rfl⟩
    rcases List.mem_append.mp hr' with hr' | hr'
    · obtain ⟨l, hl, e⟩ := h.all r' hr'
      obtain ⟨l', a, b'⟩ := keep l hl
      exact ⟨l', a, b'.trans e⟩
    · rw [List.mem_singleton.mp hr']
      unfold storeN
      by_cases e : (atN L (wK (lostS rs k r))).isSome = true
      · rw [if_pos e]
        obtain ⟨q, hq⟩ := Option.isSome_iff_exists.mp e
        unfold atN at hq
        obtain ⟨l, hl, e2⟩ := Option.map_eq_some_iff.mp hq
        have hm := List.mem_of_find?_eq_some hl
        have hk : l.1 = wK (lostS rs k r) := by simpa using List.find?_some hl
        refine ⟨_, List.mem_map.mpr ⟨l, hm, rfl⟩, ?_⟩
        unfold putN; split <;> exact hk
      · rw [if_neg e]
        exact ⟨_, List.mem_append_right _ (List.mem_singleton.mpr rfl), rfl⟩
theorem NmD.x {K : PySem.W.Frag} {P : Program} {w : World} {H H' : Hp} {d d2 : Addr} {rs seen : List Rel} {k : Nat} {L : List DnE} {ep : Nat} (h : NmD K P w H d rs k seen L ep) (s : SameX d2 H H') (t : SameT H H') (ne : d ≠ d2) : NmD K P w H' d rs k seen L ep :=
  ⟨s _ _ h.at_ ne, h.keys.t t, h.len, fun l hl => let ⟨r, a, b, c⟩ := h.val l hl; ⟨r, a, b, c.t t⟩, h.all⟩
theorem NmD.fit {K : PySem.W.Frag} {P : Program} {w : World} {H : Hp} {d : Addr} {n k : Nat} {rs : List Rel} {L : List DnE} {ep : Nat} {G : List Nat} (h : NmD K P w H d rs k rs L ep) (gm : GmR n rs) (hG : OkG n G) : lostN rs (k + 1) G = true ↔ ∃ l ∈ L, Fits rs k G l := by
  rw [lost_succ]
  constructor
  · rintro ⟨r, hr, hg⟩
    obtain ⟨l, hl, e⟩ := h.all r hr
    refine ⟨l, hl, r, hr, e, fun g hg' => lostS_mem.mpr ⟨?_, hg g hg'⟩⟩
    rw [(gm.ok r hr).len]; exact hG.2 g hg'
  · rintro ⟨l, hl, r, hr, e, hg⟩
    exact ⟨r, hr, fun g hg' => (lostS_mem.mp (hg g hg')).2⟩
theorem NmD.get {K : PySem.W.Frag} {P : Program} {w : World} {H : Hp} {d : Addr} {k : Nat} {rs seen : List Rel} {L : List DnE} {ep : Nat} {G : List Nat} {l : DnE} (h : NmD K P w H d rs k seen L ep) (hl : l ∈ L) (hf : Fits rs k G l) : ∃ c v r, atN L l.1 = some (c, v) ∧ r ∈ rs ∧ RAt K H v r ∧ ∀ g ∈ G, lostN rs k (r.getD g []) = true := by
  cases e : atN L l.1 with
  | none =>
    unfold atN at e
    rw [Option.map_eq_none_iff, List.find?_eq_none] at e
    exact absurd (decide_eq_true (rfl : l.1 = l.1)) (e l hl)
  | some q =>
    unfold atN at e
    obtain ⟨l2, hl2, e2⟩ := Option.map_eq_some_iff.mp e
    have hm := List.mem_of_find?_eq_some hl2
    have hk : l2.1 = l.1 := by simpa using List.find?_some hl2
    obtain ⟨r2, a, b, c⟩ := h.val l2 hm
    obtain ⟨r, hr, e3, hg⟩ := hf
    have es : lostS rs k r2 = lostS rs k r := wK_inj (b.symm.trans (hk.trans e3))
    refine ⟨q.1, q.2, r2, rfl, a, by rw [← e2]; exact c, fun g hg' => ?_⟩
    have := hg g hg'
    rw [← es] at this
    exact (lostS_mem.mp this).2
/-- the set of the goals -/
def GoS (K : PySem.W.Frag) (w : World) (H : Hp) (D : Addr) (all as : List (List Nat)) : Prop := ∃ L : SnL, H D = some (SetNO w D L) ∧ KeysS K H L ∧ (L.map (·.2)).Nodup ∧ (∀ p ∈ L, ∃ G ∈ all, p.2 = wK G) ∧ ∀ G ∈ as, wK G ∈ L.map (·.2)
theorem GoS.few {L : SnL} {n : Nat} {all : List (List Nat)} (hn : n ≤ 8) (ok : ∀ G ∈ all, OkG n G) (nd : (L.map (·.2)).Nodup) (h : ∀ p ∈ L, ∃ G ∈ all, p.2 = wK G) : L.length ≤ 256 := by
  have : ∃ gs : List (List Nat), L.map (·.2) = gs.map wK ∧ ∀ G ∈ gs, OkG n G := by
    clear nd
    induction L with
    | nil => exact ⟨[], rfl, nofun⟩
    | cons l L ih =>
      obtain ⟨gs, h1, h2⟩ := ih fun x hx => h x (List.mem_cons_of_mem _ hx)
      obtain ⟨G, b, c⟩ := h l List.mem_cons_self
      refine ⟨G :: gs, by rw [List.map_cons, List.map_cons, h1, c], fun x hx => ?_⟩
      rcases List.mem_cons.mp hx with rfl | hx
      · exact ok _ b
      · exact h2 x hx
  obtain ⟨gs, h1, h2⟩ := this
  rw [h1] at nd
  have nd2 : gs.Nodup := by
    rw [List.nodup_iff_pairwise_ne, List.pairwise_map] at nd
    rw [List.nodup_iff_pairwise_ne]
    exact nd.imp fun a e => a (by rw [e])
  have := goals_few hn nd2 h2
  have e := congrArg List.length h1
  rw [List.length_map, List.length_map] at e
  omega
theorem GoS.put {K : PySem.W.Frag} {w : World} {H : Hp} {D b : Addr} {n : Nat} {all as : List (List Nat)} {G : List Nat} {Q : Hp → Prop} (h : GoS K w H D all as) (hn : n ≤ 8) (ok : ∀ G ∈ all, OkG n G) (hb : WordAt K H (.ref b) G) (hG : G ∈ all)
    (q : ∀ o, SameT H (upd H D o) → GoS K w (upd H D o) D all (as ++ [G]) → Q (upd H D o)) : putM (rSAddN K w) D (.ref b) H Q := by
  obtain ⟨L, h1, h2, h3, h4, h5⟩ := h
  have hl := GoS.few hn ok h3 h4
  refine ⟨D, b, wK G, L, rfl, rfl, h1, h2, w_key hb, wK_depth G, noTx_w G, by omega, fun L' pt => ?_⟩
  have t : SameT H (upd H D (SetNO w D L')) := sameT_ext (φ := _) h1
  refine q _ t ?_
  by_cases hk : wK G ∈ L.map (·.2)
  · rw [pt.1 hk] at t ⊢
    refine ⟨L, upd_same, h2.t t, h3, h4, fun x hx => ?_⟩
    rcases List.mem_append.mp hx with hx | hx
    · exact h5 x hx
    · rw [List.mem_singleton.mp hx]; exact hk
  · have pm := pt.2 hk
    refine ⟨L', upd_same, fun p hp => ?_, ?_, fun p hp => ?_, fun x hx => ?_⟩
    · rcases List.mem_cons.mp (pm.mem_iff.mp hp) with e | e
      · subst e; exact ⟨(w_key hb).t t, wK_depth G, noTx_w G⟩
      · exact (h2.t t) p e
    · rw [(pm.map (·.2)).nodup_iff]
      exact List.nodup_cons.mpr ⟨hk, h3⟩
    · rcases List.mem_cons.mp (pm.mem_iff.mp hp) with e | e
      · subst e; exact ⟨G, hG, rfl⟩
      · exact h4 p e
    · rw [(pm.map (·.2)).mem_iff]
      rcases List.mem_append.mp hx with hx | hx
      · exact List.mem_cons_of_mem _ (h5 x hx)
      · rw [List.mem_singleton.mp hx]; exact List.mem_cons_self
theorem GoS.nil {K : PySem.W.Frag} {w : World} {H : Hp} {D : Addr} {all : List (List Nat)} : GoS K w (upd H D (SetNO w D [])) D all [] := ⟨[], upd_same, nofun, .nil, nofun, nofun⟩
theorem GoS.sort {K : PySem.W.Frag} {w : World} {H : Hp} {D : Addr} {all : List (List Nat)} {Q : VK} (h : GoS K w H D all all) (q : ∀ (p : Addr) (gs : List (List Nat)) (H' : Hp), H p = none → Same H H' → GsAt K H' p gs → gs.Nodup → (∀ G, G ∈ gs ↔ G ∈ all) → Q (.ref p) H') : rSortedST K w [.ref D] H Q := by
  obtain ⟨L, h1, h2, h3, h4, h5⟩ := h
  refine srt_of eWord (as := all) h1 h2 h4 h5 fun p vs bs H' a b c d e => ?_
  exact q p bs H' a b ⟨vs, c, paired_map d fun _ _ z => eWord_at.mp z⟩ (ltE_nodup eWord e.lt) e.mem
theorem mem_store2 {L : List DnE} {k : NestedKey} {b : Addr} {v : V} {l : DnE} (h : l ∈ storeN L k b v) : l ∈ L ∨ (l.1 = k ∧ l.2.2 = v) := by
  unfold storeN at h
  by_cases e : (atN L k).isSome = true
  · rw [if_pos e] at h
    obtain ⟨l', hl', rfl⟩ := List.mem_map.mp h
    unfold putN
    by_cases z : l'.1 = k
    · rw [if_pos z]; exact .inr ⟨z, rfl⟩
    · rw [if_neg z]; exact .inl hl'
  · rw [if_neg e] at h
    rcases List.mem_append.mp h with h | h
    · exact .inl h
    · rw [List.mem_singleton.mp h]; exact .inr ⟨rfl, rfl⟩
theorem store_has {L : List DnE} {k k' : NestedKey} {b : Addr} {v : V} (h : k' = k ∨ ∃ l ∈ L, l.1 = k') : ∃ l ∈ storeN L k b v, l.1 = k' := by
  have key : k' ∈ (storeN L k b v).map (·.1) := by
    rcases store_keys (L := L) (k := k) (b := b) (v := v) with e | ⟨_, e⟩
    · rw [e]
      rcases h with h | ⟨l, hl, h⟩
      · obtain ⟨c, hc⟩ := at_store_eq (L := L) (k := k) (b := b) (v := v)
        unfold atN at hc
        obtain ⟨l, hl, _⟩ := Option.map_eq_some_iff.mp hc
        have hm := List.mem_of_find?_eq_some hl
        have hk : l.1 = k := by simpa using List.find?_some hl
        rw [← e, h]
        exact List.mem_map.mpr ⟨l, hm, hk⟩
      · exact List.mem_map.mpr ⟨l, hl, h⟩
    · rw [e]
      rcases h with h | ⟨l, hl, h⟩
      · rw [h]; simp
      · exact List.mem_append_left _ (List.mem_map.mpr ⟨l, hl, h⟩)
  obtain ⟨l, a, b⟩ := List.mem_map.mp key
  exact ⟨l, a, b⟩
theorem store_nd {L : List DnE} {k : NestedKey} {b : Addr} {v : V} (h : (L.map (·.1)).Nodup) : ((storeN L k b v).map (·.1)).Nodup := by
  rcases store_keys (L := L) (k := k) (b := b) (v := v) with e | ⟨n, e⟩
  · rw [e]; exact h
  · rw [e, List.nodup_append]
    refine ⟨h, by simp, fun a ha b hb z => ?_⟩
    rw [List.mem_singleton.mp hb] at z
    exact n (z ▸ ha)
/-- the dict of plans while a round's goals are put in -/
structure PlM (K : PySem.W.Frag) (P : Program) (w : World) (H : Hp) (d : Addr) (n : Nat) (rs : List Rel) (Gs : List (List Nat)) (k : Nat) (seen : List (List Nat)) (L : List DnE) (ep : Nat) : Prop where
  at_ : H d = some (DictN P w d L ep)
  keys : KeysN K H L
  nd : (L.map (·.1)).Nodup
  val : ∀ l ∈ L, ∃ G ∈ Gs, OkG n G ∧ l.1 = wK G ∧ lostN rs (k + 1) G = true ∧ PlV K H rs G l.2.2
  old : ∀ G ∈ Gs, lostN rs k G = true → ∃ l ∈ L, l.1 = wK G
  new : ∀ G ∈ seen, ∃ l ∈ L, l.1 = wK G
section
variable {K : PySem.W.Frag} {P : Program} {w : World} {H H' : Hp} {d : Addr} {n : Nat} {rs : List Rel} {Gs seen : List (List Nat)} {k : Nat} {L : List DnE} {ep : Nat}
theorem PlD.start (h : PlD K P w H d n rs Gs k L ep) : PlM K P w H d n rs Gs k [] L ep := ⟨h.at_, h.keys, h.nd, fun l hl => let ⟨G, a, b, c, e, f⟩ := h.val l hl; ⟨G, a, b, c, lost_up e, f⟩, h.all, nofun⟩
theorem PlM.done {new : List (List Nat)} (h : PlM K P w H d n rs Gs k new L ep) (hn : ∀ G ∈ Gs, lostN rs (k + 1) G = true → lostN rs k G = true ∨ G ∈ new) : PlD K P w H d n rs Gs (k + 1) L ep :=
  ⟨h.at_, h.keys, h.nd, h.val, fun G hG e => (hn G hG e).elim (h.old G hG) (h.new G)⟩
theorem PlM.len (h : PlM K P w H d n rs Gs k seen L ep) (hn : n ≤ 8) : L.length ≤ 256 :=
  PlD.len (k := k + 1) (Gs := Gs.filter fun G => decide (∃ l ∈ L, l.1 = wK G)) ⟨h.at_, h.keys, h.nd, fun l hl => let ⟨G, a, b, c, e, f⟩ := h.val l hl; ⟨G, List.mem_filter.mpr ⟨a, decide_eq_true ⟨l, hl, c⟩⟩, b, c, e, f⟩, fun G hG _ => of_decide_eq_true (List.mem_filter.mp hG).2⟩ hn
theorem PlM.t {H' : Hp} (h : PlM K P w H d n rs Gs k seen L ep) (s : Same H H') : PlM K P w H' d n rs Gs k seen L ep :=
  ⟨s _ _ h.at_, h.keys.t (Same.t s), h.nd, fun l hl => let ⟨G, a, b, c, e, f⟩ := h.val l hl; ⟨G, a, b, c, e, f.t (Same.t s)⟩, h.old, h.new⟩
theorem PlM.put {b : Addr} {G : List Nat} {v : V} {ep' : Nat} (h : PlM K P w H d n rs Gs k seen L ep) (hb : WordAt K H (.ref b) G) (hG : G ∈ Gs) (ok : OkG n G) (hl : lostN rs (k + 1) G = true) (hv : PlV K H rs G v) :
    PlM K P w (upd H d (DictN P w d (storeN L (wK G) b v) ep')) d n rs Gs k (seen ++ [G]) (storeN L (wK G) b v) ep' := by
  have t : SameT H (upd H d (DictN P w d (storeN L (wK G) b v) ep')) := sameT_ext (φ := _) h.at_
  refine ⟨upd_same, (h.keys.store (w_key hb) (wK_depth _)).t t, store_nd h.nd, fun l hl' => ?_, fun G' hG' e => store_has (.inr (h.old G' hG' e)), fun G' hG' => ?_⟩
  · rcases mem_store2 hl' with hl' | ⟨e1, e2⟩
    · obtain ⟨G', a, b, c, e, f⟩ := h.val l hl'
      exact ⟨G', a, b, c, e, f.t t⟩
    · exact ⟨G, hG, ok, e1, hl, by rw [e2]; exact hv.t t⟩
  · rcases List.mem_append.mp hG' with hG' | hG'
    · exact store_has (.inr (h.new G' hG'))
    · rw [List.mem_singleton.mp hG']; exact store_has (.inl rfl)
theorem FdD.get {gs : List (List Nat)} {l : DnE} (h : FdD K P w H d rs k gs L ep) (hl : l ∈ L) : ∃ c v r G, l.1 = wK G ∧ G ∈ gs ∧ atN L l.1 = some (c, v) ∧ r ∈ rs ∧ RAt K H v r ∧ ∀ g ∈ G, lostN rs k (r.getD g []) = true := by
  cases e : atN L l.1 with
  | none =>
    unfold atN at e
    rw [Option.map_eq_none_iff, List.find?_eq_none] at e
    exact absurd (decide_eq_true (rfl : l.1 = l.1)) (e l hl)
  | some q =>
    unfold atN at e
    obtain ⟨l2, hl2, e2⟩ := Option.map_eq_some_iff.mp e
    have hm := List.mem_of_find?_eq_some hl2
    have hk : l2.1 = l.1 := by simpa using List.find?_some hl2
    obtain ⟨i, hi, e3⟩ := List.getElem_of_mem hm
    obtain ⟨G, hG, a, r, b, c, f⟩ := paired_at h.val (show L[i]? = some l2 by rw [List.getElem?_eq_getElem hi, e3])
    exact ⟨q.1, q.2, r, G, hk.symm.trans a, List.mem_of_getElem? hG, rfl, b, by rw [← e2]; exact c, f⟩
end
/-- the plans at the end: of all goals that occur, the lost ones -/
def PlAt (K : PySem.W.Frag) (P : Program) (w : World) (H : Hp) (d : Addr) (n : Nat) (rs : List Rel) : Prop := ∃ (Gs : List (List Nat)) (k : Nat) (L : List DnE) (ep : Nat), PlD K P w H d n rs Gs k L ep ∧ (∀ r ∈ rs, ∀ G ∈ r, G ∈ Gs) ∧ ∀ r ∈ rs, ∀ G ∈ r, ∀ m, lostN rs m G = true → lostN rs k G = true
theorem PlAt.same {K : PySem.W.Frag} {P : Program} {w : World} {H H' : Hp} {d : Addr} {n : Nat} {rs : List Rel} (h : PlAt K P w H d n rs) (s : Same H H') : PlAt K P w H' d n rs := let ⟨Gs, k, L, ep, a, b, c⟩ := h; ⟨Gs, k, L, ep, a.same s, b, c⟩
open Classical in
/-- lost goals -/
noncomputable def lostG (rs : List Rel) (G : List Nat) : Bool := decide (∃ n, lostN rs n G = true)
theorem lostG_iff {rs : List Rel} {G : List Nat} : lostG rs G = true ↔ ∃ n, lostN rs n G = true := by unfold lostG; exact @decide_eq_true_iff _ (Classical.propDecidable _)
theorem PlAt.use {K : PySem.W.Frag} {P : Program} {w : World} {H : Hp} {d : Addr} {n : Nat} {rs : List Rel} (h : PlAt K P w H d n rs) (hn : n ≤ 8) : ∃ (L : List DnE) (ep : Nat), H d = some (DictN P w d L ep) ∧ KeysN K H L ∧ L.length ≤ 256 ∧ (∀ r ∈ rs, ∀ G ∈ r, (atN L (wK G)).isSome = lostG rs G) ∧ ∀ G c v, atN L (wK G) = some (c, v) → PlV K H rs G v := by
  obtain ⟨Gs, k, L, ep, h1, h2, h3⟩ := h
  refine ⟨L, ep, h1.at_, h1.keys, h1.len hn, fun r hr G hG => ?_, fun G c v e => h1.get e⟩
  rw [h1.is (h2 r hr G hG), Bool.eq_iff_iff, lostG_iff]
  exact ⟨fun e => ⟨k, e⟩, fun ⟨m, e⟩ => h3 r hr G hG m e⟩
end LA

set_option maxHeartbeats 1000000
namespace LA
open PySem PySem.Spec PyProof.Rows L2 LamX
/-- the long relations of a judge, each once -/
structure LongL (j : Jd) (nx : Nat) (bs : List Rel) : Prop where
  nd : bs.Nodup
  mem : ∀ r, r ∈ bs ↔ LongR j nx r
  few : bs.length ≤ 2000
  nm : ¬ ManyR j nx
theorem LongL.gm {j : Jd} {nx ny : Nat} {bs : List Rel} (h : LongL j nx bs) (ij : IsJ j nx ny) : GmR j.length (sortR bs) :=
  ⟨fun r hr => (((h.mem r).mp (sortR_mem.mp hr)).rl).ok, by rw [(sortR_perm bs).length_eq]; exact h.few, ij.n8⟩
theorem LongL.long {j : Jd} {nx : Nat} {bs : List Rel} (h : LongL j nx bs) : ∀ r, r ∈ sortR bs ↔ LongR j nx r := fun r => by rw [sortR_mem]; exact h.mem r
/-- the least look-ahead that is enough -/
def IsLeast (j : Jd) (nx k : Nat) : Prop := enoughB j (nx ^ k) nx = true ∧ ∀ i, i < k → enoughB j (nx ^ i) nx = false
theorem IsLeast.uniq {j : Jd} {nx a b : Nat} (h : IsLeast j nx a) (k : IsLeast j nx b) : a = b := by
  rcases Nat.lt_trichotomy a b with c | c | c
  · have := k.2 a c; rw [h.1] at this; cases this
  · exact c
  · have := h.2 b c; rw [k.1] at this; cases this
/-- a position as a value -/
def PoAt (K : PySem.W.Frag) (H : Hp) (v : V) (p : Nat × Rel) : Prop := ∃ (t : Addr) (rv : V), v = .ref t ∧ SqT K H t [nV p.1, rv] ∧ RAt K H rv p.2
theorem PoAt.t {K : PySem.W.Frag} {H H' : Hp} {v : V} {p : Nat × Rel} (h : PoAt K H v p) (s : SameT H H') : PoAt K H' v p := let ⟨t, rv, a, b, c⟩ := h; ⟨t, rv, a, s.seq b, c.t s⟩
end LA

set_option maxHeartbeats 1000000
namespace LA
open PySem PySem.Spec PyProof.Rows L2
def upK : Option Nat → Nat
  | none => 5
  | some l => l + 3
def isK : Option Nat → Nat → Bool
  | none, _ => false
  | some l, k => decide (l ≤ k)
theorem fam_enough : ∀ q ∈ famJ, ∀ k, k < upK q.2.2.2 → enoughT q.1 (q.2.1 ^ k) q.2.1 12 = some (isK q.2.2.2 k) := by decide +kernel
theorem FamX.enough {b j : Jd} {nx ny : Nat} {o : Option Nat} {os xs ys : List Nat} (h : FamX b nx ny o os xs ys j) {k : Nat} (hk : k < upK o) : enoughB j (nx ^ k) nx = isK o k := by
  rw [enough_turn h.tr h.ib h.ho h.o0 h.hx h.hy]
  exact enoughT_ok (fam_enough _ h.fam k hk)
theorem FamX.size {b j : Jd} {nx ny : Nat} {o : Option Nat} {os xs ys : List Nat} (h : FamX b nx ny o os xs ys j) {k : Nat} (hk : k < upK o) : j.length * nx ^ k ≤ 2000 := by
  have : ∀ q ∈ famJ, ∀ k, k < upK q.2.2.2 → q.1.length * q.2.1 ^ k ≤ 2000 := by decide +kernel
  rw [h.tr.n]
  exact this _ h.fam k hk
section
variable {α : Type} (e : EncT α)
end
end LA

set_option maxHeartbeats 1000000
namespace LA
open PySem PySem.Spec PyProof.Rows L2 LamX
theorem stepS_one {j : Jd} {x s t : Nat} : t ∈ stepS j x [s] ↔ t < j.length ∧ some t ∈ rowJ j s x := by
  unfold stepS
  rw [upS_mem]
  simp
section
variable {b j : Jd} {nx ny : Nat} {os xs ys : List Nat}
theorem row_turn_iff (tr : TurnR b nx ny os xs ys j) (ib : IsJ b nx ny) (ho : SeqN b.length os) (hx : SeqN nx xs) (hy : SeqN ny ys) {s x t : Nat} (hs : s < b.length) (ht : t < b.length) (hxl : x < nx) : some (os.getD t 0) ∈ rowJ j (os.getD s 0) (xs.getD x 0) ↔ some t ∈ rowJ b s x := by
  refine ⟨fun h => ?_, row_turn tr ib hs hxl⟩
  have tb := tr.back ib ho hx hy
  have := row_turn tb tr.ij (by rw [tr.n]; exact ho.lt hs) (hx.lt hxl) h
  rwa [back_at ho ht, back_at ho hs, back_at hx hxl] at this
theorem reach_turn (tr : TurnR b nx ny os xs ys j) (ib : IsJ b nx ny) (ho : SeqN b.length os) (hx : SeqN nx xs) (hy : SeqN ny ys) : ∀ (u : List Nat) (s t : Nat), OvW nx u → s < b.length → t < b.length → (os.getD t 0 ∈ reachS j (u.map fun x => xs.getD x 0) [os.getD s 0] ↔ t ∈ reachS b u [s])
  | [], s, t, _, hs, ht => by
    simp only [List.map_nil, reachS, List.mem_singleton]
    exact ⟨fun e => ho.inj ht hs e, fun e => by rw [e]⟩
  | x :: u, s, t, hu, hs, ht => by
    have hxl := hu x List.mem_cons_self
    have ih := fun s' hs' => reach_turn tr ib ho hx hy u s' t (fun y hy => hu y (List.mem_cons_of_mem _ hy)) hs' ht
    show _ ∈ reachS j _ (stepS j _ [_]) ↔ _ ∈ reachS b u (stepS b x [s])
    rw [reachS_mem, reachS_mem (w := u)]
    constructor
    · rintro ⟨a, h1, h2⟩
      obtain ⟨h3, h4⟩ := stepS_one.mp h1
      rw [tr.n] at h3
      obtain ⟨a0, ha, rfl⟩ := ho.sur h3
      exact ⟨a0, stepS_one.mpr ⟨ha, (row_turn_iff tr ib ho hx hy hs ha hxl).mp h4⟩, (ih a0 ha).mp h2⟩
    · rintro ⟨a, h1, h2⟩
      obtain ⟨h3, h4⟩ := stepS_one.mp h1
      exact ⟨os.getD a 0, stepS_one.mpr ⟨by rw [tr.n]; exact ho.lt h3, (row_turn_iff tr ib ho hx hy hs h3 hxl).mpr h4⟩, (ih a h3).mpr h2⟩
theorem rel_ext {j : Jd} {u v : List Nat} (h : ∀ s, s < j.length → ∀ t, t < j.length → (t ∈ reachS j u [s] ↔ t ∈ reachS j v [s])) : relW j u = relW j v := by
  unfold relW
  refine List.map_congr_left fun s hs => ?_
  have hs := List.mem_range.mp hs
  refine nats_eq (reachS_asc (by simp)) (reachS_asc (by simp)) fun t => ?_
  have l1 : ∀ w : List Nat, t ∈ reachS j w [s] → t < j.length := fun w hw => reachS_lt (by simpa using hs) t hw
  exact ⟨fun z => (h s hs t (l1 u z)).mp z, fun z => (h s hs t (l1 v z)).mpr z⟩
theorem rel_same {j : Jd} {u v : List Nat} (h : relW j u = relW j v) {s : Nat} (hs : s < j.length) : reachS j u [s] = reachS j v [s] := by rw [← relW_at hs, ← relW_at hs, h]
/-- words alike in the judge are alike in the turned one -/
theorem turn_rel (tr : TurnR b nx ny os xs ys j) (ib : IsJ b nx ny) (ho : SeqN b.length os) (hx : SeqN nx xs) (hy : SeqN ny ys) {u v : List Nat} (hu : OvW nx u) (hv : OvW nx v) (h : relW b u = relW b v) : relW j (u.map fun x => xs.getD x 0) = relW j (v.map fun x => xs.getD x 0) := by
  refine rel_ext fun s hs t ht => ?_
  rw [tr.n] at hs ht
  obtain ⟨s0, a1, rfl⟩ := ho.sur hs
  obtain ⟨t0, b1, rfl⟩ := ho.sur ht
  rw [reach_turn tr ib ho hx hy u s0 t0 hu a1 b1, reach_turn tr ib ho hx hy v s0 t0 hv a1 b1, rel_same h a1]
theorem ov_back (hx : SeqN nx xs) {w : List Nat} (hw : OvW nx w) : OvW nx (w.map fun x => (backN nx xs).getD x 0) ∧ (w.map fun x => (backN nx xs).getD x 0).map (fun x => xs.getD x 0) = w := by
  refine ⟨fun z hz => ?_, ?_⟩
  · obtain ⟨x, h1, rfl⟩ := List.mem_map.mp hz
    exact (back_seq hx).lt (hw x h1)
  · rw [List.map_map]
    conv => rhs; rw [← List.map_id w]
    exact List.map_congr_left fun x hx' => at_back hx (hw x hx')
end
/-- all relations of words, by going on letter by letter -/
def cloR (b : Jd) (nx : Nat) : Nat → List Rel
  | 0 => ((List.range nx).map (relL b)).eraseDups
  | n + 1 => (cloR b nx n ++ (cloR b nx n).flatMap fun r => (List.range nx).map fun x => compR r (relL b x)).eraseDups
def cloOk (b : Jd) (nx : Nat) (rs : List Rel) : Bool := ((List.range nx).all fun x => rs.contains (relL b x)) && rs.all fun r => (List.range nx).all fun x => rs.contains (compR r (relL b x))
theorem clo_all {b : Jd} {nx : Nat} {rs : List Rel} (h : cloOk b nx rs = true) : ∀ (n : Nat) (w : List Nat), w.length = n → w ≠ [] → OvW nx w → relW b w ∈ rs := by
  unfold cloOk at h
  rw [Bool.and_eq_true] at h
  obtain ⟨h1, h2⟩ := h
  rw [List.all_eq_true] at h1 h2
  intro n
  induction n with
  | zero => intro w hl hn; exact absurd (List.length_eq_zero_iff.mp hl) hn
  | succ n ih =>
    intro w hl hn ho
    obtain ⟨u, x, rfl⟩ := snoc_of hn
    obtain ⟨hu, hx⟩ := ho.init
    rw [← comp_letter]
    by_cases c : u = []
    · subst c
      have := h1 x (List.mem_range.mpr hx)
      rw [List.contains_iff_mem] at this
      rw [comp_letter, List.nil_append, ← relL_word]; exact this
    · have := h2 _ (ih u (by simpa using hl) c hu)
      rw [List.all_eq_true] at this
      have := this x (List.mem_range.mpr hx)
      rwa [List.contains_iff_mem] at this
theorem fam_clo : ∀ q ∈ famJ, cloOk q.1 q.2.1 (cloR q.1 q.2.1 8) = true ∧ (cloR q.1 q.2.1 8).length ≤ 60 := by decide +kernel
end LA

set_option maxHeartbeats 1000000
namespace LA
open PySem PySem.Spec PyProof.Rows L2 LamX
section
variable {j : Jd} {nx ny : Nat} {st : List Rw}
end
end LA

set_option maxHeartbeats 1000000
namespace LA
open PySem PySem.Spec PyProof.Rows L2 LamX
noncomputable section
def stP (acc h : Nat) : Nat :=
  (fun a => Nat.mod (Nat.mul (Nat.add (Nat.mod (Nat.mul a 2147483648) 18446744073709551616) (Nat.div a 8589934592)) 11400714785074694791) 18446744073709551616) (Nat.mod (Nat.add acc (Nat.mul h 14029467366897019727)) 18446744073709551616)
def finP (n a : Nat) : Nat := (fun b => @Bool.rec (fun _ => Nat) b 1546275796 (Nat.beq b 18446744073709551615)) (Nat.mod (Nat.add a (Nat.xor n 2870177450013471926)) 18446744073709551616)
def tuP (hs : List Nat) : Nat := finP hs.length (List.foldl stP 2870177450012600261 hs)
def mapP (f : Nat → Nat) (l : List Nat) : List Nat := @List.rec Nat (fun _ => List Nat) [] (fun x _ ih => f x :: ih) l
def fmP (f : Nat → List Nat) (l : List Nat) : List Nat := @List.rec Nat (fun _ => List Nat) [] (fun x _ ih => @List.rec Nat (fun _ => List Nat) ih (fun y _ ih2 => y :: ih2) (f x)) l
def keepP (p b : Nat) (l : List Nat) : List Nat := @List.rec Nat (fun _ => List Nat) [] (fun x _ ih => @Bool.rec (fun _ => List Nat) ih (x :: ih) (Nat.beq (Nat.mod (Nat.div x p) 2) b)) l
def distP (fuel : Nat) : Nat → List Nat → Bool := @Nat.rec (fun _ => Nat → List Nat → Bool) (fun _ l => @List.rec Nat (fun _ => Bool) true (fun _ t _ => @List.rec Nat (fun _ => Bool) true (fun _ _ _ => false) t) l) (fun _ ih p l => @List.rec Nat (fun _ => Bool) true (fun _ t _ => @List.rec Nat (fun _ => Bool) true (fun _ _ _ => @Bool.rec (fun _ => Bool) false (ih (Nat.mul p 2) (keepP p 1 l)) (ih (Nat.mul p 2) (keepP p 0 l))) t) l) fuel
theorem mapP_eq (f : Nat → Nat) : ∀ l : List Nat, mapP f l = l.map f
  | [] => rfl
  | x :: l => by show f x :: mapP f l = f x :: l.map f; rw [mapP_eq f l]
theorem fmP_eq (f : Nat → List Nat) : ∀ l : List Nat, fmP f l = l.flatMap f
  | [] => rfl
  | x :: l => by
    rw [List.flatMap_cons, ← fmP_eq f l]
    show @List.rec Nat (fun _ => List Nat) (fmP f l) (fun y _ ih2 => y :: ih2) (f x) = f x ++ fmP f l
    generalize fmP f l = t
    induction f x with
    | nil => rfl
    | cons y m ih => show y :: _ = y :: (m ++ t); rw [ih]
theorem keepP_eq (p b : Nat) : ∀ l : List Nat, keepP p b l = l.filter fun x => Nat.beq (Nat.mod (Nat.div x p) 2) b
  | [] => rfl
  | x :: l => by
    show @Bool.rec (fun _ => List Nat) (keepP p b l) (x :: keepP p b l) (Nat.beq (Nat.mod (Nat.div x p) 2) b) = _
    rw [keepP_eq p b l]
    cases e : Nat.beq (Nat.mod (Nat.div x p) 2) b with
    | true => rw [List.filter_cons_of_pos (p := fun x => Nat.beq (Nat.mod (Nat.div x p) 2) b) e]
    | false => rw [List.filter_cons_of_neg (p := fun x => Nat.beq (Nat.mod (Nat.div x p) 2) b) (by rw [e]; decide)]
theorem nodup_two {α : Type} {p q : α → Bool} (hpq : ∀ x, p x = true ∨ q x = true) : ∀ m : List α, (m.filter p).Nodup → (m.filter q).Nodup → m.Nodup
  | [], _, _ => .nil
  | x :: m, k1, k2 => by
    have s1 : (m.filter p).Nodup := (List.Sublist.nodup ((List.sublist_cons_self x m).filter p)) k1
    have s2 : (m.filter q).Nodup := (List.Sublist.nodup ((List.sublist_cons_self x m).filter q)) k2
    refine List.nodup_cons.mpr ⟨fun z => ?_, nodup_two hpq m s1 s2⟩
    rcases hpq x with e | e
    · rw [List.filter_cons_of_pos e] at k1
      exact (List.nodup_cons.mp k1).1 (List.mem_filter.mpr ⟨z, e⟩)
    · rw [List.filter_cons_of_pos e] at k2
      exact (List.nodup_cons.mp k2).1 (List.mem_filter.mpr ⟨z, e⟩)
theorem distP_ok : ∀ (n p : Nat) (l : List Nat), distP n p l = true → l.Nodup
  | _, _, [], _ => .nil
  | _, _, [_], _ => by simp
  | 0, _, _ :: _ :: _, h => by cases h
  | n + 1, p, a :: b :: l, h => by
    have h : @Bool.rec (fun _ => Bool) false (distP n (Nat.mul p 2) (keepP p 1 (a :: b :: l))) (distP n (Nat.mul p 2) (keepP p 0 (a :: b :: l))) = true := h
    cases e : distP n (Nat.mul p 2) (keepP p 0 (a :: b :: l)) with
    | false => rw [e] at h; cases h
    | true =>
      rw [e] at h
      have h1 := distP_ok n _ _ e
      have h2 := distP_ok n _ _ h
      rw [keepP_eq] at h1 h2
      refine nodup_two (fun x => ?_) _ h1 h2
      have h3 : Nat.mod (Nat.div x p) 2 < 2 := Nat.mod_lt _ (by decide)
      generalize Nat.mod (Nat.div x p) 2 = z at h3
      match z, h3 with
      | 0, _ => exact .inl rfl
      | 1, _ => exact .inr rfl
/-- a relation's hash, a position's hash: as numbers from 0 to 2 ^ 64 - 1 -/
def hRel (r : List (List Nat)) : Nat := tuP (r.map tuP)
def hPos (s : Nat) (r : List (List Nat)) : Nat := tuP [s, hRel r]
theorem beqP {a b : Nat} : Nat.beq a b = decide (a = b) := by
  cases e : Nat.beq a b with
  | true => exact (decide_eq_true (Nat.eq_of_beq_eq_true e)).symm
  | false => exact (decide_eq_false (Nat.ne_of_beq_eq_false e)).symm
end
end LA

set_option maxRecDepth 1000000
set_option maxHeartbeats 4000000
namespace LA
open PySem PySem.Spec PyProof.Rows L2 LamX
/-- a position as a key -/
def poK (s : Nat) (r : Rel) : NestedKey := .tup [numK s, rK r]
theorem map_inj {α β : Type} {f : α → β} : ∀ {l : List α}, (l.map f).Nodup → ∀ x ∈ l, ∀ y ∈ l, f x = f y → x = y
  | [], _, _, hx, _, _, _ => nomatch hx
  | a :: l, nd, x, hx, y, hy, e => by
    rw [List.map_cons, List.nodup_cons] at nd
    rcases List.mem_cons.mp hx with hx | hx <;> rcases List.mem_cons.mp hy with hy | hy
    · rw [hx, hy]
    · exact absurd (List.mem_map.mpr ⟨y, hy, e.symm.trans (by rw [hx])⟩) nd.1
    · exact absurd (List.mem_map.mpr ⟨x, hx, e.trans (by rw [hy])⟩) nd.1
    · exact map_inj nd.2 x hx y hy e
noncomputable section
/-- all lists with one thing of each list -/
def cartL {α : Type} : List (List α) → List (List α)
  | [] => [[]]
  | o :: os => o.flatMap fun x => (cartL os).map fun t => x :: t
theorem mem_cart {α : Type} : ∀ {os : List (List α)} {t : List α}, Paired (fun x o => x ∈ o) t os → t ∈ cartL os
  | _, _, .nil => by simp [cartL]
  | _, _, .cons h p => List.mem_flatMap.mpr ⟨_, h, List.mem_map.mpr ⟨_, mem_cart p, rfl⟩⟩
def hcG (st : Nat → Nat → Nat) (os : List (List Nat)) : Nat → List Nat := @List.rec (List Nat) (fun _ => Nat → List Nat) (fun acc => [acc]) (fun o _ ih acc => fmP (fun h => ih (st acc h)) o) os
theorem hcG_eq (st : Nat → Nat → Nat) (f : List Nat → Nat) : ∀ (os : List (List (List Nat))) (acc : Nat), hcG st (os.map fun o => o.map f) acc = (cartL os).map fun t => (t.map f).foldl st acc
  | [], acc => rfl
  | o :: os, acc => by
    show fmP (fun h => hcG st (os.map fun o => o.map f) (st acc h)) (o.map f) = _
    rw [fmP_eq]
    show List.flatMap _ _ = List.map _ (o.flatMap fun x => (cartL os).map fun t => x :: t)
    rw [List.map_flatMap, List.flatMap_map]
    congr 1
    funext x
    rw [hcG_eq st f os, List.map_map]
    rfl
theorem cart_len {α : Type} : ∀ {os : List (List α)} {t : List α}, t ∈ cartL os → t.length = os.length
  | [], t, h => by rw [List.mem_singleton.mp (show t ∈ [[]] from h)]; rfl
  | o :: os, t, h => by
    obtain ⟨x, _, h⟩ := List.mem_flatMap.mp (show t ∈ o.flatMap fun x => (cartL os).map fun t => x :: t from h)
    obtain ⟨t', h', rfl⟩ := List.mem_map.mp h
    rw [List.length_cons, List.length_cons, cart_len h']
def posG (st fin : Nat → Nat → Nat) (p5 n s : Nat) (oh : List (List Nat)) : List Nat := (fun a => mapP (fun h => fin 2 (st a h)) (mapP (fin n) (hcG st oh p5))) (st p5 s)
theorem posG_eq (st fin : Nat → Nat → Nat) (p5 n s : Nat) (tu : List Nat → Nat) (ht : ∀ l, tu l = fin l.length (l.foldl st p5)) (os : List (List (List Nat))) (hn : os.length = n) : posG st fin p5 n s (os.map fun o => o.map tu) = (cartL os).map fun r => tu [s, tu (r.map tu)] := by
  unfold posG
  dsimp only
  rw [hcG_eq, mapP_eq, mapP_eq, List.map_map, List.map_map]
  refine List.map_congr_left fun r hr => ?_
  have hl := cart_len hr
  simp only [Function.comp]
  rw [ht [s, tu (r.map tu)], ht (r.map tu), List.length_map, hl, hn]
  simp only [List.foldl_cons, List.foldl_nil, List.length_cons, List.length_nil]
/-- what each state may lead to -/
def optR (n s : Nat) : List (List (List Nat)) := (List.range n).map fun i => if i = s then [[]] else allG n
def optH (n s : Nat) : List (List Nat) := (List.range n).map fun i => @Bool.rec (fun _ => List Nat) ((allG n).map tuP) [tuP []] (Nat.beq i s)
theorem opt_eq (n s : Nat) : optH n s = (optR n s).map fun o => o.map tuP := by
  unfold optH optR
  rw [List.map_map]
  refine List.map_congr_left fun i _ => ?_
  show @Bool.rec (fun _ => List Nat) ((allG n).map tuP) [tuP []] (Nat.beq i s) = (if i = s then [[]] else allG n).map tuP
  rw [beqP]
  by_cases e : i = s
  · rw [if_pos e, decide_eq_true e]; rfl
  · rw [if_neg e, decide_eq_false e]
def posHs (n s : Nat) : List Nat := posG stP finP 2870177450012600261 n s (optH n s)
def posAll (n : Nat) : List (Nat × Rel) := (List.range n).flatMap fun s => (cartL (optR n s)).map fun r => (s, r)
theorem posHs_eq (n : Nat) : fmP (posHs n) (List.range n) = (posAll n).map fun p => hPos p.1 p.2 := by
  rw [fmP_eq]
  unfold posAll
  rw [List.map_flatMap]
  congr 1
  funext s
  unfold posHs
  rw [opt_eq, posG_eq stP finP 2870177450012600261 n s tuP (fun _ => rfl) (optR n s) (by simp [optR]), List.map_map]
  rfl
theorem pos_1 : distP 70 1 (fmP (posHs 1) (List.range 1)) = true := by decide +kernel
theorem pos_2 : distP 70 1 (fmP (posHs 2) (List.range 2)) = true := by decide +kernel
theorem pos_3 : distP 70 1 (fmP (posHs 3) (List.range 3)) = true := by decide +kernel
theorem pos_4 : distP 70 1 (fmP (posHs 4) (List.range 4)) = true := by decide +kernel
theorem mem_pos {n s : Nat} {r : Rel} (hs : s < n) (h : IsR n r) (e : r.getD s [] = []) : (s, r) ∈ posAll n := by
  refine List.mem_flatMap.mpr ⟨s, List.mem_range.mpr hs, List.mem_map.mpr ⟨r, mem_cart ?_, rfl⟩⟩
  refine paired_of_get (by rw [h.len]; simp [optR]) fun i G o h1 h2 => ?_
  have hi := (List.getElem?_eq_some_iff.mp h1).1
  rw [h.len] at hi
  unfold optR at h2
  rw [List.getElem?_map, List.getElem?_range hi] at h2
  have h2 : (if i = s then [[]] else allG n) = o := Option.some.inj h2
  subst h2
  by_cases c : i = s
  · subst c
    rw [if_pos rfl, List.mem_singleton]
    rw [List.getD_eq_getElem?_getD, h1] at e
    exact e
  · rw [if_neg c]
    have hG := List.mem_of_getElem? h1
    exact mem_allG (h.asc G hG) (h.lt G hG)
/-- up to four states -/
theorem pos_inj4 {n s s' : Nat} {r r' : Rel} (hn : n ≤ 4) (hs : s < n) (hs' : s' < n) (h : IsR n r) (h' : IsR n r') (e : r.getD s [] = []) (e' : r'.getD s' [] = []) (hh : hPos s r = hPos s' r') : s = s' ∧ r = r' := by
  have key : distP 70 1 (fmP (posHs n) (List.range n)) = true := by
    match n, hn with
    | 0, _ => rfl
    | 1, _ => exact pos_1
    | 2, _ => exact pos_2
    | 3, _ => exact pos_3
    | 4, _ => exact pos_4
  have nd := distP_ok _ _ _ key
  rw [posHs_eq] at nd
  have := map_inj nd (s, r) (mem_pos hs h e) (s', r') (mem_pos hs' h' e') hh
  exact ⟨congrArg Prod.fst this, congrArg Prod.snd this⟩
end
/-- positions of a judge in which nothing can be chosen: their hashes tell them apart -/
def PosI (j : Jd) (nx : Nat) : Prop := ∀ s s' r r', s < j.length → s' < j.length → IsRl j nx r → IsRl j nx r' → r.getD s [] = [] → r'.getD s' [] = [] → hPos s r = hPos s' r' → s = s' ∧ r = r'
theorem pos4 {j : Jd} {nx : Nat} (h : j.length ≤ 4) : PosI j nx := fun _ _ _ _ hs hs' hr hr' e e' hh => pos_inj4 h hs hs' hr.ok hr'.ok e e' hh
end LA

set_option maxHeartbeats 1000000
namespace LA
open PySem PySem.Spec PyProof.Rows L2 LamX
open Sem (wp)
section
variable {X : Cx}
end
end LA

set_option maxHeartbeats 4000000
namespace LA
open PySem PySem.Spec PyProof.Rows L2
end LA

set_option maxHeartbeats 1000000
namespace LA
open PySem PySem.Spec PyProof.Rows L2
inductive RchT (j : Jd) (t : List Row3) : Nat × List Nat → Prop
  | st {r : Row3} : r ∈ t → r.1 = 0 → RchT j t (prOf r)
  | go {r : Row3} {x s : Nat} {u : List Nat} : r ∈ t → RchT j t (prOf r) → x < r.2.2.length → follow j r.1 r.2.1 r.2.2 x = (some s, u) → RchT j t (s, u)
open Classical in
noncomputable def usedT (j : Jd) (t : List Row3) : List Row3 := t.filter fun r => decide (RchT j t (prOf r))
theorem RchT.in_ {j : Jd} {t : List Row3} (hc : closedB j t = true) {p : Nat × List Nat} (h : RchT j t p) : p ∈ t.map prOf := by
  induction h with
  | st hr _ => exact List.mem_map.mpr ⟨_, hr, rfl⟩
  | @go r x s u hr _ hx e _ =>
    unfold closedB at hc
    have := List.all_eq_true.mp hc (inTab t (follow j r.1 r.2.1 r.2.2 x)) (List.mem_flatMap.mpr ⟨r, hr, List.mem_map.mpr ⟨x, List.mem_range.mpr hx, rfl⟩⟩)
    rw [e] at this
    simpa [inTab] using this
/-- what a search has found: pairs that are reached, closed up to the n-th -/
structure Fnd (j : Jd) (t : List Row3) (ps : List (Nat × List Nat)) (n : Nat) : Prop where
  nd : ps.Nodup
  rc : ∀ p ∈ ps, RchT j t p
  st : ∀ r ∈ t, r.1 = 0 → prOf r ∈ ps
  go : ∀ (i : Nat) (r : Row3) (x s : Nat) (u : List Nat), i < n → r ∈ t → ps[i]? = some (prOf r) → x < r.2.2.length → follow j r.1 r.2.1 r.2.2 x = (some s, u) → (s, u) ∈ ps
theorem Fnd.len {j : Jd} {t : List Row3} {ps : List (Nat × List Nat)} {n : Nat} (h : Fnd j t ps n) (hc : closedB j t = true) : ps.length ≤ t.length := by
  have := nodup_len h.nd (fun p hp => (h.rc p hp).in_ hc)
  rwa [List.length_map] at this
theorem Fnd.all {j : Jd} {t : List Row3} {ps : List (Nat × List Nat)} {n : Nat} (h : Fnd j t ps n) (hn : ps.length ≤ n) (p : Nat × List Nat) : p ∈ ps ↔ RchT j t p := by
  refine ⟨h.rc p, fun hp => ?_⟩
  induction hp with
  | st hr e => exact h.st _ hr e
  | go hr _ hx e ih =>
    obtain ⟨i, hi, e2⟩ := List.getElem_of_mem ih
    exact h.go i _ _ _ _ (by omega) hr (by rw [List.getElem?_eq_getElem hi, e2]) hx e
theorem Fnd.start {j : Jd} {t : List Row3} (nd : (t.map prOf).Nodup) : Fnd j t ((t.filter fun r => decide (r.1 = 0)).map prOf) 0 :=
  ⟨List.Nodup.sublist (List.Sublist.map _ List.filter_sublist) nd, fun p hp => by
    obtain ⟨r, hr, rfl⟩ := List.mem_map.mp hp
    obtain ⟨h1, h2⟩ := List.mem_filter.mp hr
    exact .st h1 (of_decide_eq_true h2), fun r hr e => List.mem_map.mpr ⟨r, List.mem_filter.mpr ⟨hr, decide_eq_true e⟩, rfl⟩, fun i _ _ _ _ h => absurd h (Nat.not_lt_zero i)⟩
theorem FoAt.pr {K : PySem.W.Frag} {H : Hp} {v : V} {s : Nat} {u : List Nat} (h : FoAt K H v (some s, u)) : PrAt K H v (s, u) := by
  obtain ⟨a, b, e, x, y⟩ := h
  exact ⟨a, b, e, x, y⟩
theorem closed_at {j : Jd} {t : List Row3} (hc : closedB j t = true) {r : Row3} (hr : r ∈ t) {x : Nat} (hx : x < r.2.2.length) : ∃ s u, follow j r.1 r.2.1 r.2.2 x = (some s, u) ∧ (s, u) ∈ t.map prOf := by
  unfold closedB at hc
  have := List.all_eq_true.mp hc (inTab t (follow j r.1 r.2.1 r.2.2 x)) (List.mem_flatMap.mpr ⟨r, hr, List.mem_map.mpr ⟨x, List.mem_range.mpr hx, rfl⟩⟩)
  rcases e : follow j r.1 r.2.1 r.2.2 x with ⟨o, u⟩
  rw [e] at this
  cases o with
  | none => cases this
  | some s => exact ⟨s, u, rfl, by simpa [inTab] using this⟩
theorem Fnd.snoc {j : Jd} {t : List Row3} {ps : List (Nat × List Nat)} {n : Nat} {p : Nat × List Nat} (h : Fnd j t ps n) (hn : n ≤ ps.length) (hp : p ∉ ps) (r : RchT j t p) : Fnd j t (ps ++ [p]) n := by
  refine ⟨?_, fun q hq => ?_, fun r hr e => List.mem_append_left _ (h.st r hr e), fun i r x s u hi hr e hx ef => ?_⟩
  · rw [List.nodup_append]
    exact ⟨h.nd, by simp, fun a ha b hb => by simp at hb; subst hb; intro z; subst z; exact hp ha⟩
  · rcases List.mem_append.mp hq with z | z
    · exact h.rc q z
    · simp at z; rw [z]; exact r
  · rw [List.getElem?_append_left (by omega)] at e
    exact List.mem_append_left _ (h.go i r x s u hi hr e hx ef)
theorem Fnd.next {j : Jd} {t : List Row3} {ps : List (Nat × List Nat)} {n : Nat} {r : Row3} (h : Fnd j t ps n) (nd : (t.map prOf).Nodup) (hr : r ∈ t) (e : ps[n]? = some (prOf r)) (hg : ∀ x < r.2.2.length, ∀ s u, follow j r.1 r.2.1 r.2.2 x = (some s, u) → (s, u) ∈ ps) : Fnd j t ps (n + 1) := by
  refine ⟨h.nd, h.rc, h.st, fun i r' x s u hi hr' e' hx ef => ?_⟩
  by_cases z : i = n
  · subst z
    have : r' = r := inj_map nd hr' hr (Option.some.inj (e'.symm.trans e))
    subst this
    exact hg x hx s u ef
  · exact h.go i r' x s u (by omega) hr' e' hx ef
theorem paired_un {α β : Type} {R : α → β → Prop} : ∀ {W : List β} {us : List α} {p : β}, Paired R us (W ++ [p]) → ∃ us' v, us = us' ++ [v] ∧ Paired R us' W ∧ R v p
  | [], _, _, h => by
    cases h with
    | cons h1 h2 => cases h2; exact ⟨[], _, rfl, .nil, h1⟩
  | _ :: W, _, _, h => by
    cases h with
    | cons h1 h2 =>
      obtain ⟨us', v, rfl, a, b⟩ := paired_un h2
      exact ⟨_ :: us', v, rfl, .cons h1 a, b⟩
def sucP (j : Jd) (r : Row3) (x : Nat) : Nat × List Nat := ((follow j r.1 r.2.1 r.2.2 x).1.getD 0, (follow j r.1 r.2.1 r.2.2 x).2)
theorem sucP_of {j : Jd} {r : Row3} {x s : Nat} {u : List Nat} (h : follow j r.1 r.2.1 r.2.2 x = (some s, u)) : sucP j r x = (s, u) := by
  unfold sucP
  rw [h]; rfl
structure Fnq (j : Jd) (t : List Row3) (ps W : List (Nat × List Nat)) : Prop where
  nd : ps.Nodup
  rc : ∀ p ∈ ps, RchT j t p
  rw : ∀ p ∈ W, RchT j t p
  st : ∀ r ∈ t, r.1 = 0 → prOf r ∈ ps ∨ prOf r ∈ W
  go : ∀ r ∈ t, prOf r ∈ ps → ∀ x < r.2.2.length, sucP j r x ∈ ps ∨ sucP j r x ∈ W
theorem Fnq.len {j : Jd} {t : List Row3} {ps W : List (Nat × List Nat)} (h : Fnq j t ps W) (hc : closedB j t = true) : ps.length ≤ t.length := by
  have := nodup_len h.nd (fun p hp => (h.rc p hp).in_ hc)
  rwa [List.length_map] at this
theorem Fnq.all {j : Jd} {t : List Row3} {ps : List (Nat × List Nat)} (h : Fnq j t ps []) (p : Nat × List Nat) : p ∈ ps ↔ RchT j t p := by
  refine ⟨h.rc p, fun hp => ?_⟩
  induction hp with
  | st hr e => exact (h.st _ hr e).elim id (fun z => nomatch z)
  | go hr _ hx e ih =>
    have := (h.go _ hr ih _ hx).elim id (fun z => nomatch z)
    rwa [sucP_of e] at this
theorem Fnq.drop {j : Jd} {t : List Row3} {ps W : List (Nat × List Nat)} {p : Nat × List Nat} (h : Fnq j t ps (W ++ [p])) (hp : p ∈ ps) : Fnq j t ps W := by
  have key : ∀ q, q ∈ ps ∨ q ∈ W ++ [p] → q ∈ ps ∨ q ∈ W := fun q hq => by
    rcases hq with z | z
    · exact .inl z
    · rcases List.mem_append.mp z with z | z
      · exact .inr z
      · simp at z; subst z; exact .inl hp
  exact ⟨h.nd, h.rc, fun q hq => h.rw q (List.mem_append_left _ hq), fun r hr e => key _ (h.st r hr e), fun r hr e x hx => key _ (h.go r hr e x hx)⟩
theorem Fnq.push {j : Jd} {t : List Row3} {ps W : List (Nat × List Nat)} {r : Row3} (h : Fnq j t ps (W ++ [prOf r])) (hc : closedB j t = true) (nd : (t.map prOf).Nodup) (hr : r ∈ t) (hp : prOf r ∉ ps) : Fnq j t (ps ++ [prOf r]) (W ++ (List.range r.2.2.length).map (sucP j r)) := by
  have hrc := h.rw (prOf r) (by simp)
  have key : ∀ q, q ∈ ps ∨ q ∈ W ++ [prOf r] → q ∈ ps ++ [prOf r] ∨ q ∈ W ++ (List.range r.2.2.length).map (sucP j r) := fun q hq => by
    rcases hq with z | z
    · exact .inl (List.mem_append_left _ z)
    · rcases List.mem_append.mp z with z | z
      · exact .inr (List.mem_append_left _ z)
      · exact .inl (List.mem_append_right _ z)
  refine ⟨?_, fun q hq => ?_, fun q hq => ?_, fun r' hr' e => key _ (h.st r' hr' e), fun r' hr' e x hx => ?_⟩
  · rw [List.nodup_append]
    exact ⟨h.nd, by simp, fun a ha b hb => by simp at hb; subst hb; intro z; subst z; exact hp ha⟩
  · rcases List.mem_append.mp hq with z | z
    · exact h.rc q z
    · simp at z; subst z; exact hrc
  · rcases List.mem_append.mp hq with z | z
    · exact h.rw q (List.mem_append_left _ z)
    · obtain ⟨x, hx, rfl⟩ := List.mem_map.mp z
      have hx' := List.mem_range.mp hx
      obtain ⟨s, u, e, _⟩ := closed_at hc hr hx'
      rw [sucP_of e]
      exact .go hr hrc hx' e
  · rcases List.mem_append.mp e with z | z
    · exact key _ (h.go r' hr' z x hx)
    · simp at z
      have : r' = r := inj_map nd hr' hr z
      subst this
      exact .inr (List.mem_append_right _ (List.mem_map.mpr ⟨x, List.mem_range.mpr hx, rfl⟩))
theorem Fnq.start {j : Jd} {t : List Row3} {nx k : Nat} (ok : ∀ r ∈ t, r.2.1.length = k ∧ ∀ x ∈ r.2.1, x < nx) (hs : ∀ u ∈ allW nx k, (0, u) ∈ t.map prOf) : Fnq j t [] ((allW nx k).map fun u => (0, u)) := by
  refine ⟨List.nodup_nil, nofun, fun p hp => ?_, fun r hr e => .inr (List.mem_map.mpr ⟨r.2.1, (mem_allW nx k _).mpr (ok r hr), by rw [← e]; rfl⟩), nofun⟩
  obtain ⟨u, hu, rfl⟩ := List.mem_map.mp hp
  obtain ⟨r, hr, e⟩ := List.mem_map.mp (hs u hu)
  rw [← e]
  exact .st hr (by have := congrArg Prod.fst e; exact this)
end LA

set_option maxHeartbeats 1000000
namespace LA
open PySem PySem.Spec PyProof.Rows L2 LamX
theorem allK {X : Cx} (K : PySem.W.Frag) (hc : X.calm = true := by rfl) (h : X.K = K := by rfl) : CallR X (.builtin "all") (rAll K) := by subst h; exact cr_all hc
theorem poK_inj {s s' : Nat} {r r' : Rel} (h : poK s r = poK s' r') : s = s' ∧ r = r' := by
  unfold poK at h
  injection h with h
  injection h with h1 h2
  injection h2 with h2 _
  exact ⟨numK_inj h1, rK_inj h2⟩
theorem poK_depth (s : Nat) (r : Rel) : (poK s r).depth ≤ 8 := by
  have h : (rK r).depth ≤ 3 := by
    unfold rK
    have : ∀ l : Rel, NestedKey.depthAll (l.map wK) ≤ 2 := by
      intro l
      induction l with
      | nil => simp [NestedKey.depthAll]
      | cons S l ih =>
        have h1 := depth_ints S
        have h2 : (wK S).depth ≤ 2 := by simp [wK, NestedKey.depth, h1]
        simp only [List.map_cons, NestedKey.depthAll]
        omega
    have := this r
    simp only [NestedKey.depth]
    omega
  simp only [poK, NestedKey.depth, NestedKey.depthAll, numK]
  omega
/-- one more round: what has rank k -/
def frB (rs : List Rel) (k : Nat) (p : Nat × Rel) : Bool := !lostN rs k (p.2.getD p.1 []) && lostN rs (k + 1) (p.2.getD p.1 [])
def psAll (n : Nat) (rs : List Rel) : List (Nat × Rel) := (List.range n).flatMap fun s => rs.map fun r => (s, r)
theorem mem_psAll {n : Nat} {rs : List Rel} {p : Nat × Rel} : p ∈ psAll n rs ↔ p.1 < n ∧ p.2 ∈ rs := by
  unfold psAll
  rw [List.mem_flatMap]
  constructor
  · rintro ⟨s, hs, h⟩
    obtain ⟨r, hr, rfl⟩ := List.mem_map.mp h
    exact ⟨List.mem_range.mp hs, hr⟩
  · rintro ⟨h1, h2⟩
    exact ⟨p.1, List.mem_range.mpr h1, List.mem_map.mpr ⟨p.2, h2, rfl⟩⟩
theorem psAll_nd {n : Nat} {rs : List Rel} (h : rs.Nodup) : (psAll n rs).Nodup := by
  unfold psAll
  rw [List.nodup_iff_pairwise_ne]
  rw [List.pairwise_flatMap]
  refine ⟨fun s _ => ?_, ?_⟩
  · rw [List.pairwise_map]
    rw [List.nodup_iff_pairwise_ne] at h
    exact h.imp fun a e => a (by injection e)
  · refine List.Pairwise.imp (fun {a b} hab x hx y hy e => ?_) (List.nodup_iff_pairwise_ne.mp (List.nodup_range (n := n)))
    obtain ⟨_, _, rfl⟩ := List.mem_map.mp hx
    obtain ⟨_, _, rfl⟩ := List.mem_map.mp hy
    exact hab (congrArg Prod.fst e)
theorem psAll_len (n : Nat) (rs : List Rel) : (psAll n rs).length = n * rs.length := by
  unfold psAll
  induction n with
  | zero => simp
  | succ n ih => rw [List.range_succ, List.flatMap_append, List.length_append, ih]; simp [Nat.add_mul]
/-- the dict of ranks after k rounds -/
structure RkD (K : PySem.W.Frag) (P : Program) (w : World) (H : Hp) (d : Addr) (n : Nat) (rs : List Rel) (k : Nat) (L : List DnE) (ep : Nat) : Prop where
  at_ : H d = some (DictN P w d L ep)
  keys : KeysN K H L
  nd : (L.map (·.1)).Nodup
  val : ∀ l ∈ L, ∃ s r m, s < n ∧ r ∈ rs ∧ l.1 = poK s r ∧ l.2.2 = nV m ∧ lostN rs m (r.getD s []) = false ∧ lostN rs (m + 1) (r.getD s []) = true ∧ m + 1 ≤ k
  all : ∀ s r, s < n → r ∈ rs → lostN rs k (r.getD s []) = true → ∃ l ∈ L, l.1 = poK s r
section
variable {K : PySem.W.Frag} {P : Program} {w : World} {H H' : Hp} {d : Addr} {n : Nat} {rs : List Rel} {k : Nat} {L : List DnE} {ep : Nat}
theorem RkD.same (h : RkD K P w H d n rs k L ep) (s : Same H H') : RkD K P w H' d n rs k L ep := ⟨s _ _ h.at_, h.keys.t (Same.t s), h.nd, h.val, h.all⟩
theorem RkD.is (h : RkD K P w H d n rs k L ep) {s : Nat} {r : Rel} (hs : s < n) (hr : r ∈ rs) : (atN L (poK s r)).isSome = lostN rs k (r.getD s []) := by
  unfold atN
  rw [Option.isSome_map, Bool.eq_iff_iff, List.find?_isSome]
  constructor
  · rintro ⟨l, hl, e⟩
    obtain ⟨s', r', m, _, _, c, _, _, e1, e2⟩ := h.val l hl
    obtain ⟨rfl, rfl⟩ := poK_inj (c.symm.trans (of_decide_eq_true e))
    exact lost_mono e2 e1
  · intro e
    obtain ⟨l, hl, c⟩ := h.all s r hs hr e
    exact ⟨l, hl, decide_eq_true c⟩
theorem RkD.get (h : RkD K P w H d n rs k L ep) {s : Nat} {r : Rel} {c : Addr} {v : V} (e : atN L (poK s r) = some (c, v)) : ∃ m, v = nV m ∧ lostN rs m (r.getD s []) = false ∧ lostN rs (m + 1) (r.getD s []) = true := by
  unfold atN at e
  obtain ⟨l, hl, e2⟩ := Option.map_eq_some_iff.mp e
  have hm := List.mem_of_find?_eq_some hl
  have hk : l.1 = poK s r := by simpa using List.find?_some hl
  obtain ⟨s', r', m, _, _, a, b, e1, e3, _⟩ := h.val l hm
  obtain ⟨rfl, rfl⟩ := poK_inj (a.symm.trans hk)
  rw [e2] at b
  exact ⟨m, b, e1, e3⟩
theorem RkD.len (h : RkD K P w H d n rs k L ep) : L.length ≤ n * rs.length := by
  have e : (L.map (·.1)).length ≤ ((psAll n rs).map fun p => poK p.1 p.2).length := nodup_lenD _ _ h.nd fun x hx => by
    obtain ⟨l, hl, rfl⟩ := List.mem_map.mp hx
    obtain ⟨s, r, m, h1, h2, h3, _⟩ := h.val l hl
    exact List.mem_map.mpr ⟨(s, r), mem_psAll.mpr ⟨h1, h2⟩, h3.symm⟩
  rwa [List.length_map, List.length_map, psAll_len] at e
end
/-- a list of positions -/
def PsAt (K : PySem.W.Frag) (H : Hp) (l : Addr) (ps : List (Nat × Rel)) : Prop := ∃ vs, H l = some (.lst vs) ∧ Paired (PoAt K H) vs ps
theorem PsAt.same {K : PySem.W.Frag} {H H' : Hp} {l : Addr} {ps : List (Nat × Rel)} (h : PsAt K H l ps) (s : Same H H') : PsAt K H' l ps := let ⟨vs, a, b⟩ := h; ⟨vs, s _ _ a, paired_map b fun _ _ z => z.t (Same.t s)⟩
/-- the ranks at the end -/
def RkAt (K : PySem.W.Frag) (P : Program) (w : World) (H : Hp) (d : Addr) (n : Nat) (rs : List Rel) : Prop := ∃ k L ep, RkD K P w H d n rs k L ep ∧ ∀ s r, s < n → r ∈ rs → ∀ m, lostN rs m (r.getD s []) = true → lostN rs k (r.getD s []) = true
theorem RkAt.same {K : PySem.W.Frag} {P : Program} {w : World} {H H' : Hp} {d : Addr} {n : Nat} {rs : List Rel} (h : RkAt K P w H d n rs) (s : Same H H') : RkAt K P w H' d n rs := let ⟨k, L, ep, a, b⟩ := h; ⟨k, L, ep, a.same s, b⟩
theorem RkAt.use {K : PySem.W.Frag} {P : Program} {w : World} {H : Hp} {d : Addr} {n : Nat} {rs : List Rel} (h : RkAt K P w H d n rs) : ∃ (L : List DnE) (ep : Nat), H d = some (DictN P w d L ep) ∧ KeysN K H L ∧ L.length ≤ n * rs.length ∧ (∀ s r, s < n → r ∈ rs → (atN L (poK s r)).isSome = lostG rs (r.getD s [])) ∧ ∀ s r c v, atN L (poK s r) = some (c, v) → ∃ m, v = nV m ∧ lostN rs m (r.getD s []) = false ∧ lostN rs (m + 1) (r.getD s []) = true := by
  obtain ⟨k, L, ep, h1, h2⟩ := h
  refine ⟨L, ep, h1.at_, h1.keys, h1.len, fun s r hs hr => ?_, fun s r c v e => h1.get e⟩
  rw [h1.is hs hr, Bool.eq_iff_iff, lostG_iff]
  exact ⟨fun e => ⟨k, e⟩, fun ⟨m, e⟩ => h2 s r hs hr m e⟩
def poD (p : Nat × Rel) : PyData := .tuple [.int (p.1 : Int), relD p.2]
theorem PoAt.dp {K : PySem.W.Frag} {H : Hp} {v : V} {p : Nat × Rel} (h : PoAt K H v p) : Dp K H v (poD p) := by
  obtain ⟨t, rv, rfl, hT, hR⟩ := h
  exact .tup hT (.cons (.int _) (.cons hR.dp .nil))
theorem RkD.step {K : PySem.W.Frag} {P : Program} {w : World} {H : Hp} {d : Addr} {n : Nat} {rs : List Rel} {k : Nat} {L M : List DnE} {ep ep' : Nat} (h : RkD K P w H d n rs k L ep) (hM : KeysN K H M) (hk : M.map (·.1) = ((psAll n rs).filter (frB rs k)).map (fun p => poK p.1 p.2)) (hv : ∀ l ∈ M, l.2.2 = nV k) (hn : rs.Nodup) :
    ((L ++ M).map (·.1)).Nodup ∧ RkD K P w (upd H d (DictN P w d (L ++ M) ep')) d n rs (k + 1) (L ++ M) ep' := by
  have t : SameT H (upd H d (DictN P w d (L ++ M) ep')) := sameT_ext (φ := _) h.at_
  have inM : ∀ l ∈ M, ∃ s r, s < n ∧ r ∈ rs ∧ l.1 = poK s r ∧ lostN rs k (r.getD s []) = false ∧ lostN rs (k + 1) (r.getD s []) = true := fun l hl => by
    have : l.1 ∈ ((psAll n rs).filter (frB rs k)).map (fun p => poK p.1 p.2) := by rw [← hk]; exact List.mem_map.mpr ⟨l, hl, rfl⟩
    obtain ⟨p, hp, e⟩ := List.mem_map.mp this
    obtain ⟨a, b⟩ := List.mem_filter.mp hp
    obtain ⟨c1, c2⟩ := mem_psAll.mp a
    unfold frB at b
    rw [Bool.and_eq_true, Bool.not_eq_true'] at b
    exact ⟨p.1, p.2, c1, c2, e.symm, b.1, b.2⟩
  have nd : ((L ++ M).map (·.1)).Nodup := by
    rw [List.map_append, List.nodup_append]
    refine ⟨h.nd, ?_, fun a ha b hb e => ?_⟩
    · rw [hk, List.nodup_iff_pairwise_ne, List.pairwise_map]
      have := ((psAll_nd (n := n) hn).filter (frB rs k))
      exact List.Pairwise.imp (fun {x y} a e => a (by obtain ⟨e1, e2⟩ := poK_inj e; exact Prod.ext e1 e2)) this
    · obtain ⟨l, hl, rfl⟩ := List.mem_map.mp ha
      obtain ⟨l', hl', rfl⟩ := List.mem_map.mp hb
      obtain ⟨s, r, m, _, _, e1, _, _, e2, e3⟩ := h.val l hl
      obtain ⟨s', r', _, _, e4, e5, _⟩ := inM l' hl'
      obtain ⟨rfl, rfl⟩ := poK_inj (e1.symm.trans (e.trans e4))
      rw [lost_mono e3 e2] at e5; cases e5
  refine ⟨nd, upd_same, fun l hl => ?_, nd, fun l hl => ?_, fun s r hs hr e => ?_⟩
  · rcases List.mem_append.mp hl with hl | hl
    · exact (h.keys.t t) l hl
    · exact (hM.t t) l hl
  · rcases List.mem_append.mp hl with hl | hl
    · obtain ⟨s, r, m, a1, a2, a3, a4, a5, a6, a7⟩ := h.val l hl
      exact ⟨s, r, m, a1, a2, a3, a4, a5, a6, by omega⟩
    · obtain ⟨s, r, a1, a2, a3, a4, a5⟩ := inM l hl
      exact ⟨s, r, k, a1, a2, a3, hv l hl, a4, a5, Nat.le_refl _⟩
  · cases c : lostN rs k (r.getD s []) with
    | true =>
      obtain ⟨l, hl, e1⟩ := h.all s r hs hr c
      exact ⟨l, List.mem_append_left _ hl, e1⟩
    | false =>
      have : poK s r ∈ M.map (·.1) := by
        rw [hk]
        refine List.mem_map.mpr ⟨(s, r), List.mem_filter.mpr ⟨mem_psAll.mpr ⟨hs, hr⟩, ?_⟩, rfl⟩
        unfold frB
        rw [c, e]; rfl
      obtain ⟨l, hl, e1⟩ := List.mem_map.mp this
      exact ⟨l, List.mem_append_right _ hl, e1⟩
end LA

set_option maxHeartbeats 1000000
namespace LA
open PySem L2
end LA

set_option maxHeartbeats 1000000
namespace LA
open PySem L2
/-- more than m relations -/
def MoreR (j : Jd) (nx m : Nat) : Prop := ∃ l : List Rel, l.Nodup ∧ (∀ r ∈ l, IsRl j nx r) ∧ m < l.length
def GrOrN (K : PySem.W.Frag) (H : Hp) (j : Jd) (nx m : Nat) (L : List DnE) : Prop := (∃ rs : List Rel, AllR j nx rs ∧ rs.length ≤ m ∧ L.map (·.1) = rs.map rK ∧ (∀ l ∈ L, GrV K H j nx l)) ∨ (MoreR j nx m ∧ L = [])
theorem GrOrN.m {K : PySem.W.Frag} {H : Hp} {j : Jd} {nx m : Nat} {L : List DnE} (h : GrOrN K H j nx m L) : GrOrM K H j nx m L := h.imp id fun z => z.2
end LA

set_option maxHeartbeats 1000000
namespace LA
open PySem L2
end LA

set_option maxRecDepth 1000000
set_option maxHeartbeats 4000000
namespace LA
open PySem PySem.Spec PyProof.Rows L2 LamX
/-- all sequences of some things -/
def permL : Nat → List Nat → List (List Nat)
  | 0, _ => [[]]
  | k + 1, l => l.flatMap fun x => (permL k (l.erase x)).map fun t => x :: t
theorem mem_permL : ∀ {t l : List Nat}, t.Perm l → t ∈ permL t.length l
  | [], l, h => by simp [permL]
  | x :: t, l, h => by
    have hx : x ∈ l := h.mem_iff.mp List.mem_cons_self
    refine List.mem_flatMap.mpr ⟨x, hx, List.mem_map.mpr ⟨t, mem_permL (List.cons_perm_iff_perm_erase.mp h).2, rfl⟩⟩
def seqs0 (n : Nat) : List (List Nat) := (permL (n - 1) ((List.range n).erase 0)).map fun t => 0 :: t
theorem mem_seqs0 {n : Nat} {os : List Nat} (hn : 1 ≤ n) (h : SeqN n os) (h0 : os.getD 0 0 = 0) : os ∈ seqs0 n := by
  have hl := h.len
  cases os with
  | nil => simp at hl; omega
  | cons x t =>
    have h0 : x = 0 := h0
    subst h0
    refine List.mem_map.mpr ⟨t, ?_, rfl⟩
    have hp := (List.cons_perm_iff_perm_erase.mp (show (0 :: t).Perm (List.range n) from h)).2
    have := mem_permL hp
    have e : t.length = n - 1 := by simp at hl; omega
    rwa [e] at this
/-- some states with other numbers -/
def renS (n : Nat) (bk S : List Nat) : List Nat := (List.range n).filter fun u => S.contains (bk.getD u 0)
noncomputable section
def nthP (l : List Nat) : Nat → Nat := @List.rec Nat (fun _ => Nat → Nat) (fun _ => 0) (fun x _ ih i => @Nat.rec (fun _ => Nat) x (fun k _ => ih k) i) l
def selP (f : Nat → Nat) (e : Nat) (us : List Nat) : List Nat := @List.rec Nat (fun _ => List Nat) [] (fun u _ ih => @Bool.rec (fun _ => List Nat) ih (u :: ih) (Nat.beq (f u) e)) us
def fmL (f : List Nat → List Nat) (l : List (List Nat)) : List Nat := @List.rec (List Nat) (fun _ => List Nat) [] (fun x _ ih => @List.rec Nat (fun _ => List Nat) ih (fun y _ ih2 => y :: ih2) (f x)) l
def mapL (f : List Nat → Nat) (l : List (List Nat)) : List Nat := @List.rec (List Nat) (fun _ => List Nat) [] (fun x _ ih => f x :: ih) l
def allP (f : List Nat → Bool) (l : List (List Nat)) : Bool := @List.rec (List Nat) (fun _ => Bool) true (fun x _ ih => @Bool.rec (fun _ => Bool) false ih (f x)) l
theorem nthP_eq : ∀ (l : List Nat) (i : Nat), nthP l i = l.getD i 0
  | [], _ => rfl
  | x :: l, 0 => rfl
  | x :: l, i + 1 => by show nthP l i = _; rw [nthP_eq l i]; rfl
theorem selP_eq (f : Nat → Nat) (e : Nat) : ∀ us : List Nat, selP f e us = us.filter fun u => decide (f u = e)
  | [] => rfl
  | u :: us => by
    show @Bool.rec (fun _ => List Nat) (selP f e us) (u :: selP f e us) (Nat.beq (f u) e) = _
    rw [selP_eq f e us, beqP]
    by_cases c : f u = e
    · rw [List.filter_cons_of_pos (p := fun u => decide (f u = e)) (decide_eq_true c), decide_eq_true c]
    · rw [List.filter_cons_of_neg (p := fun u => decide (f u = e)) (by simpa using c), decide_eq_false c]
theorem fmL_eq (f : List Nat → List Nat) : ∀ l : List (List Nat), fmL f l = l.flatMap f
  | [] => rfl
  | x :: l => by
    rw [List.flatMap_cons, ← fmL_eq f l]
    show @List.rec Nat (fun _ => List Nat) (fmL f l) (fun y _ ih2 => y :: ih2) (f x) = f x ++ fmL f l
    generalize fmL f l = t
    induction f x with
    | nil => rfl
    | cons y m ih => show y :: _ = y :: (m ++ t); rw [ih]
theorem mapL_eq (f : List Nat → Nat) : ∀ l : List (List Nat), mapL f l = l.map f
  | [] => rfl
  | x :: l => by show f x :: mapL f l = f x :: l.map f; rw [mapL_eq f l]
theorem allP_mem {f : List Nat → Bool} : ∀ {l : List (List Nat)}, allP f l = true → ∀ x ∈ l, f x = true
  | [], _, _, hx => nomatch hx
  | a :: l, h, x, hx => by
    have h : @Bool.rec (fun _ => Bool) false (allP f l) (f a) = true := h
    cases e : f a with
    | false => rw [e] at h; cases h
    | true =>
      rw [e] at h
      rcases List.mem_cons.mp hx with hx | hx
      · rw [hx]; exact e
      · exact allP_mem h x hx
/-- which states are among some, as numbers 0 and 1 -/
def maskS (n : Nat) (S : List Nat) : List Nat := (List.range n).map fun v => if S.contains v then 1 else 0
def subsD (b : Jd) (nx : Nat) : List (List Nat) := ((cloR b nx 8).flatten).eraseDups
def idxR (D : List (List Nat)) (r : Rel) : List Nat := r.map fun S => D.idxOf S
def famT (tu : List Nat → Nat) (rng : List Nat) (ms : List (List Nat)) (bk : List Nat) : List Nat := mapL (fun m => tu (selP (fun u => nthP m (nthP bk u)) 1 rng)) ms
def famP (tu : List Nat → Nat) (rng : List Nat) (e : Nat) (irs : List (List Nat)) (bk T : List Nat) : List Nat :=
  fmL (fun ir => (fun h => mapP (fun t => tu [t, h]) (selP (fun t => nthP ir (nthP bk t)) e rng)) (tu (mapP (fun u => nthP T (nthP ir (nthP bk u))) rng))) irs
def famH (n nx : Nat) (b : Jd) (bk : List Nat) : List Nat := famP tuP (List.range n) ((subsD b nx).idxOf []) ((cloR b nx 8).map (idxR (subsD b nx))) bk (famT tuP (List.range n) ((subsD b nx).map (maskS n)) bk)
theorem fam_3 : (allP (fun bk => distP 70 1 (famH 5 2 (parJ 3) bk)) (seqs0 5)) = true := by decide +kernel
theorem fam_2 : (allP (fun bk => distP 70 1 (famH 7 2 (furJ 2 2) bk)) (seqs0 7)) = true := by decide +kernel
def seqsC (x : Nat) : List (List Nat) := (permL 5 ([1, 2, 3, 4, 5, 6].erase x)).map fun t => 0 :: x :: t
theorem mem_seqsC {os : List Nat} (h : SeqN 7 os) (h0 : os.getD 0 0 = 0) : ∃ x ∈ [1, 2, 3, 4, 5, 6], os ∈ seqsC x := by
  have hl := h.len
  cases os with
  | nil => simp at hl
  | cons z t =>
    have h0 : z = 0 := h0
    subst h0
    have hp : t.Perm ((List.range 7).erase 0) := (List.cons_perm_iff_perm_erase.mp (show (0 :: t).Perm (List.range 7) from h)).2
    rw [show (List.range 7).erase 0 = [1, 2, 3, 4, 5, 6] from by decide] at hp
    cases t with
    | nil => simp at hl
    | cons x t =>
      have hx : x ∈ [1, 2, 3, 4, 5, 6] := hp.mem_iff.mp List.mem_cons_self
      refine ⟨x, hx, List.mem_map.mpr ⟨t, ?_, rfl⟩⟩
      have := mem_permL (List.cons_perm_iff_perm_erase.mp hp).2
      have e : t.length = 5 := by simpa using hl
      rwa [e] at this
theorem fam_41 : (allP (fun bk => distP 70 1 (famH 7 2 (parJ 4) bk)) (seqsC 1)) = true := by decide +kernel
theorem fam_42 : (allP (fun bk => distP 70 1 (famH 7 2 (parJ 4) bk)) (seqsC 2)) = true := by decide +kernel
theorem fam_43 : (allP (fun bk => distP 70 1 (famH 7 2 (parJ 4) bk)) (seqsC 3)) = true := by decide +kernel
theorem fam_44 : (allP (fun bk => distP 70 1 (famH 7 2 (parJ 4) bk)) (seqsC 4)) = true := by decide +kernel
theorem fam_45 : (allP (fun bk => distP 70 1 (famH 7 2 (parJ 4) bk)) (seqsC 5)) = true := by decide +kernel
theorem fam_46 : (allP (fun bk => distP 70 1 (famH 7 2 (parJ 4) bk)) (seqsC 6)) = true := by decide +kernel
end
end LA

set_option maxHeartbeats 1000000
namespace LA
open PySem PySem.Spec PyProof.Rows L2 LamX
/-- a family's position by its base relation -/
def posB (n : Nat) (bk : List Nat) (R : List Rel) : List (Nat × Rel) := R.flatMap fun r => ((List.range n).filter fun t => decide (r.getD (bk.getD t 0) [] = [])).map fun t => (t, r)
theorem idx_get {D : List (List Nat)} {S : List Nat} (h : S ∈ D) : D[D.idxOf S]? = some S := by
  have hl : D.idxOf S < D.length := List.idxOf_lt_length_of_mem h
  rw [List.getElem?_eq_getElem hl, List.getElem_idxOf hl]
theorem idx_eq {D : List (List Nat)} {S S' : List Nat} (h : S ∈ D) (h' : S' ∈ D) : D.idxOf S = D.idxOf S' ↔ S = S' := by
  constructor
  · intro e
    have h1 := idx_get h
    rw [e, idx_get h'] at h1
    exact (Option.some.inj h1).symm
  · intro e; rw [e]
theorem idxR_get {D : List (List Nat)} {r : Rel} {s : Nat} (hs : s < r.length) : (idxR D r).getD s 0 = D.idxOf (r.getD s []) := by
  unfold idxR
  rw [List.getD_eq_getElem?_getD, List.getElem?_map, List.getElem?_eq_getElem hs, List.getD_eq_getElem?_getD, List.getElem?_eq_getElem hs]
  rfl
theorem sel_mask {n : Nat} {bk S : List Nat} (hb : ∀ u, u < n → bk.getD u 0 < n) : selP (fun u => nthP (maskS n S) (nthP bk u)) 1 (List.range n) = renS n bk S := by
  rw [selP_eq]
  unfold renS
  refine List.filter_congr fun u hu => ?_
  have hu := List.mem_range.mp hu
  have := hb u hu
  rw [nthP_eq, nthP_eq]
  unfold maskS
  rw [List.getD_eq_getElem?_getD, List.getElem?_map, List.getElem?_range this]
  simp only [Option.map_some, Option.getD_some]
  by_cases c : S.contains (bk.getD u 0) = true
  · simp only [c, if_true]
    rfl
  · rw [Bool.not_eq_true] at c
    simp only [c, Bool.false_eq_true, if_false]
    rfl
theorem famP_eq {tu : List Nat → Nat} {n : Nat} {bk : List Nat} {D : List (List Nat)} {R : List Rel} (hb : ∀ u, u < n → bk.getD u 0 < n) (hR : ∀ r ∈ R, r.length = n ∧ ∀ S ∈ r, S ∈ D) (hD : [] ∈ D) :
    famP tu (List.range n) (D.idxOf []) (R.map (idxR D)) bk (famT tu (List.range n) (D.map (maskS n)) bk) = (posB n bk R).map fun p => tu [p.1, tu ((List.range n).map fun u => tu (renS n bk (p.2.getD (bk.getD u 0) [])))] := by
  unfold famP
  rw [fmL_eq, List.flatMap_map]
  unfold posB
  rw [List.map_flatMap]
  have : ∀ r ∈ R, (fun h => mapP (fun t => tu [t, h]) (selP (fun t => nthP (idxR D r) (nthP bk t)) (D.idxOf []) (List.range n))) (tu (mapP (fun u => nthP (famT tu (List.range n) (D.map (maskS n)) bk) (nthP (idxR D r) (nthP bk u))) (List.range n))) = (((List.range n).filter fun t => decide (r.getD (bk.getD t 0) [] = [])).map fun t => (t, r)).map fun p => tu [p.1, tu ((List.range n).map fun u => tu (renS n bk (p.2.getD (bk.getD u 0) [])))] := fun r hr => by
    obtain ⟨h1, h2⟩ := hR r hr
    have inD : ∀ u, u < n → r.getD (bk.getD u 0) [] ∈ D := fun u hu => by
      have := hb u hu
      refine h2 _ ?_
      have hl : bk.getD u 0 < r.length := by omega
      rw [List.getD_eq_getElem?_getD, List.getElem?_eq_getElem hl]
      exact List.getElem_mem hl
    dsimp only
    rw [mapP_eq, mapP_eq, selP_eq, List.map_map]
    have e1 : (List.range n).filter (fun t => decide (nthP (idxR D r) (nthP bk t) = D.idxOf [])) = (List.range n).filter fun t => decide (r.getD (bk.getD t 0) [] = []) := by
      refine List.filter_congr fun t ht => ?_
      have ht := List.mem_range.mp ht
      have := hb t ht
      rw [nthP_eq, nthP_eq, idxR_get (by omega)]
      exact decide_eq_decide.mpr (idx_eq (inD t ht) hD)
    have e2 : (List.range n).map (fun u => nthP (famT tu (List.range n) (D.map (maskS n)) bk) (nthP (idxR D r) (nthP bk u))) = (List.range n).map fun u => tu (renS n bk (r.getD (bk.getD u 0) [])) := by
      refine List.map_congr_left fun u hu => ?_
      have hu := List.mem_range.mp hu
      have := hb u hu
      rw [nthP_eq bk, nthP_eq (idxR D r), idxR_get (by omega), nthP_eq]
      unfold famT
      rw [mapL_eq, List.map_map, List.getD_eq_getElem?_getD, List.getElem?_map, idx_get (inD u hu)]
      show tu _ = tu _
      congr 1
      exact sel_mask hb
    rw [e1, e2]
    rfl
  clear hR
  induction R with
  | nil => rfl
  | cons r R ih =>
    rw [List.flatMap_cons, List.flatMap_cons, this r List.mem_cons_self, ih fun x hx => this x (List.mem_cons_of_mem _ hx)]
end LA

set_option maxHeartbeats 1000000
namespace LA
open PySem PySem.Spec PyProof.Rows L2 LamX
section
variable {b j : Jd} {nx ny : Nat} {os xs ys : List Nat}
theorem reach_ren (tr : TurnR b nx ny os xs ys j) (ib : IsJ b nx ny) (ho : SeqN b.length os) (hx : SeqN nx xs) (hy : SeqN ny ys) {u : List Nat} (hu : OvW nx u) {s : Nat} (hs : s < b.length) : reachS j (u.map fun x => xs.getD x 0) [s] = renS b.length (backN b.length os) (reachS b u [(backN b.length os).getD s 0]) := by
  have sl : ∀ t ∈ reachS j (u.map fun x => xs.getD x 0) [s], t < b.length := fun t ht => by
    have := reachS_lt (j := j) (by simpa [tr.n] using hs) t ht
    rwa [tr.n] at this
  refine nats_eq (reachS_asc (by simp)) (List.Pairwise.filter _ List.pairwise_lt_range) fun t => ?_
  unfold renS
  rw [List.mem_filter, List.mem_range]
  obtain ⟨s0, a1, rfl⟩ := ho.sur hs
  rw [back_at ho a1]
  constructor
  · intro h
    have ht := sl t h
    refine ⟨ht, ?_⟩
    obtain ⟨t0, b1, rfl⟩ := ho.sur ht
    rw [back_at ho b1, List.contains_iff_mem]
    exact (reach_turn tr ib ho hx hy u s0 t0 hu a1 b1).mp h
  · rintro ⟨ht, h⟩
    obtain ⟨t0, b1, rfl⟩ := ho.sur ht
    rw [back_at ho b1, List.contains_iff_mem] at h
    exact (reach_turn tr ib ho hx hy u s0 t0 hu a1 b1).mpr h
end
theorem mem_posB {n : Nat} {bk : List Nat} {R : List Rel} {t : Nat} {r : Rel} (hr : r ∈ R) (ht : t < n) (h : r.getD (bk.getD t 0) [] = []) : (t, r) ∈ posB n bk R :=
  List.mem_flatMap.mpr ⟨r, hr, List.mem_map.mpr ⟨t, List.mem_filter.mpr ⟨List.mem_range.mpr ht, decide_eq_true h⟩, rfl⟩⟩
theorem clo_len (b : Jd) (nx : Nat) : ∀ n, ∀ r ∈ cloR b nx n, r.length = b.length
  | 0, r, h => by
    obtain ⟨x, _, rfl⟩ := List.mem_map.mp (List.mem_eraseDups.mp h)
    simp [relL]
  | n + 1, r, h => by
    rcases List.mem_append.mp (List.mem_eraseDups.mp h) with h | h
    · exact clo_len b nx n r h
    · obtain ⟨r0, h0, h⟩ := List.mem_flatMap.mp h
      obtain ⟨x, _, rfl⟩ := List.mem_map.mp h
      have := clo_len b nx n r0 h0
      simp [compR, this]
/-- the check over all sequences tells the positions apart -/
theorem fam_pos {b j : Jd} {nx ny : Nat} {o : Option Nat} {os xs ys : List Nat} (h : FamX b nx ny o os xs ys j) (hD : [] ∈ subsD b nx) (hc : distP 70 1 (famH b.length nx b (backN b.length os)) = true) : PosI j nx := by
  have hb : ∀ u, u < b.length → (backN b.length os).getD u 0 < b.length := fun u hu => (back_seq h.ho).lt hu
  have nd := distP_ok _ _ _ hc
  obtain ⟨c1, c2⟩ := fam_clo _ h.fam
  unfold famH at nd
  rw [famP_eq (D := subsD b nx) hb (fun r hr => ⟨clo_len b nx 8 r hr, fun S hS => List.mem_eraseDups.mpr (List.mem_flatten.mpr ⟨r, hr, hS⟩)⟩) hD] at nd
  intro s s' r r' hs hs' hr hr' e e' hh
  rw [h.tr.n] at hs hs'
  have key : ∀ (s : Nat) (r : Rel), s < b.length → IsRl j nx r → r.getD s [] = [] → ∃ u, u ≠ [] ∧ OvW nx u ∧ r = relW j (u.map fun x => xs.getD x 0) ∧ (s, relW b u) ∈ posB b.length (backN b.length os) (cloR b nx 8) ∧ hPos s r = tuP [s, tuP ((List.range b.length).map fun v => tuP (renS b.length (backN b.length os) ((relW b u).getD ((backN b.length os).getD v 0) [])))] := by
    rintro s r hs ⟨w, hn, ho, rfl⟩ e
    obtain ⟨hu, eu⟩ := ov_back h.hx ho
    refine ⟨_, fun z => hn (by simpa using z), hu, by rw [eu], ?_, ?_⟩
    · refine mem_posB (clo_all c1 _ _ rfl (fun z => hn (by simpa using z)) hu) hs ?_
      rw [relW_at (hb s hs)]
      have e2 : reachS j w [s] = [] := by
        have := e
        rwa [relW_at (by rw [h.tr.n]; exact hs)] at this
      rw [← eu, reach_ren h.tr h.ib h.ho h.hx h.hy hu hs] at e2
      cases hE : reachS b (w.map fun x => (backN nx xs).getD x 0) [(backN b.length os).getD s 0] with
      | nil => rfl
      | cons t T =>
        exfalso
        rw [hE] at e2
        have ht : t < b.length := reachS_lt (j := b) (S := [(backN b.length os).getD s 0]) (fun x hx => by rw [List.mem_singleton.mp hx]; exact hb s hs) t (by rw [hE]; exact List.mem_cons_self)
        have : os.getD t 0 ∈ renS b.length (backN b.length os) (t :: T) := by
          unfold renS
          rw [List.mem_filter, List.mem_range]
          exact ⟨h.ho.lt ht, by rw [back_at h.ho ht, List.contains_iff_mem]; exact List.mem_cons_self⟩
        rw [e2] at this; cases this
    · have e4 : ∀ v, v < b.length → (relW j w).getD v [] = renS b.length (backN b.length os) ((relW b (w.map fun x => (backN nx xs).getD x 0)).getD ((backN b.length os).getD v 0) []) := fun v hv => by
        rw [relW_at (by rw [h.tr.n]; exact hv), relW_at (hb v hv)]
        have := reach_ren h.tr h.ib h.ho h.hx h.hy hu hv
        rwa [eu] at this
      have e5 : relW j w = (List.range b.length).map fun v => renS b.length (backN b.length os) ((relW b (w.map fun x => (backN nx xs).getD x 0)).getD ((backN b.length os).getD v 0) []) := by
        refine List.ext_getElem (by simp [relW, h.tr.n]) fun v h1 h2 => ?_
        rw [List.length_map, List.length_range] at h2
        have e6 := e4 v h2
        rw [List.getD_eq_getElem?_getD, List.getElem?_eq_getElem h1] at e6
        rw [List.getElem_map, List.getElem_range]
        exact e6
      have e7 := congrArg (hPos s) e5
      rw [e7]
      exact congrArg (fun l => tuP [s, tuP l]) (by rw [List.map_map]; rfl)
  obtain ⟨u, u1, u2, u3, u4, u5⟩ := key s r hs hr e
  obtain ⟨v, v1, v2, v3, v4, v5⟩ := key s' r' hs' hr' e'
  rw [u5, v5] at hh
  have := map_inj nd _ u4 _ v4 hh
  have e1 : s = s' := congrArg Prod.fst this
  have e2 : relW b u = relW b v := congrArg Prod.snd this
  refine ⟨e1, ?_⟩
  rw [u3, v3]
  exact turn_rel h.tr h.ib h.ho h.hx h.hy u2 v2 e2
theorem FamX.pos {b j : Jd} {nx ny : Nat} {o : Option Nat} {os xs ys : List Nat} (h : FamX b nx ny o os xs ys j) : PosI j nx := by
  have b0 : (backN b.length os).getD 0 0 = 0 := by
    have := back_at h.ho (s := 0) (by have := h.ib.n1; omega)
    rw [h.o0] at this; exact this
  have hbk := back_seq h.ho
  rcases Nat.lt_or_ge 4 j.length with c | c
  · have hf := h.fam
    have hl := h.tr.n
    simp only [famJ, List.mem_cons, List.not_mem_nil, or_false, Prod.mk.injEq] at hf
    have l1 : (furJ 2 1).length = 3 := by decide +kernel
    have l2 : (furJ 2 2).length = 7 := by decide +kernel
    have l3 : (furJ 3 1).length = 4 := by decide +kernel
    have l4 : (parJ 1).length = 1 := by decide +kernel
    have l5 : (parJ 2).length = 3 := by decide +kernel
    have l6 : (parJ 3).length = 5 := by decide +kernel
    have l7 : (parJ 4).length = 7 := by decide +kernel
    have l8 : endJ.length = 3 := by decide +kernel
    have l9 : one0J.length = 1 := by decide +kernel
    have l10 : one1J.length = 1 := by decide +kernel
    rcases hf with ⟨rfl, rfl, _⟩ | ⟨rfl, rfl, _⟩ | ⟨rfl, rfl, _⟩ | ⟨rfl, rfl, _⟩ | ⟨rfl, rfl, _⟩ | ⟨rfl, rfl, _⟩ | ⟨rfl, rfl, _⟩ | ⟨rfl, rfl, _⟩ | ⟨rfl, rfl, _⟩ | ⟨rfl, rfl, _⟩
    · omega
    · refine fam_pos h (by decide +kernel) ?_
      rw [l2] at hbk b0 ⊢
      exact allP_mem fam_2 _ (mem_seqs0 (by decide) hbk b0)
    · omega
    · omega
    · omega
    · refine fam_pos h (by decide +kernel) ?_
      rw [l6] at hbk b0 ⊢
      exact allP_mem fam_3 _ (mem_seqs0 (by decide) hbk b0)
    · refine fam_pos h (by decide +kernel) ?_
      rw [l7] at hbk b0 ⊢
      obtain ⟨x, hx, hm⟩ := mem_seqsC hbk b0
      simp only [List.mem_cons, List.not_mem_nil, or_false] at hx
      rcases hx with rfl | rfl | rfl | rfl | rfl | rfl
      · exact allP_mem fam_41 _ hm
      · exact allP_mem fam_42 _ hm
      · exact allP_mem fam_43 _ hm
      · exact allP_mem fam_44 _ hm
      · exact allP_mem fam_45 _ hm
      · exact allP_mem fam_46 _ hm
    · omega
    · omega
    · omega
  · exact pos4 c
end LA

set_option maxHeartbeats 1000000
namespace LA
open PySem PySem.Spec PyProof.Rows L2 LamX
end LA

set_option maxHeartbeats 1000000
namespace LA
open PySem PySem.Spec PyProof.Rows L2 LamX
/-- the rank of goals -/
def RkIs (rs : List Rel) (G : List Nat) : Option Nat → Prop
  | none => lostG rs G = false
  | some m => lostN rs m G = false ∧ lostN rs (m + 1) G = true
theorem RkIs.uniq {rs : List Rel} {G : List Nat} {a b : Option Nat} (h : RkIs rs G a) (h' : RkIs rs G b) : a = b := by
  cases a with
  | none =>
    cases b with
    | none => rfl
    | some m =>
      have := lostG_iff.mpr ⟨_, h'.2⟩
      rw [h] at this; cases this
  | some k =>
    cases b with
    | none =>
      have := lostG_iff.mpr ⟨_, h.2⟩
      rw [h'] at this; cases this
    | some m =>
      rcases Nat.lt_trichotomy k m with c | c | c
      · exfalso
        have := lost_mono (show k + 1 ≤ m by omega) h.2
        rw [h'.1] at this; cases this
      · rw [c]
      · exfalso
        have := lost_mono (show m + 1 ≤ k by omega) h'.2
        rw [h.1] at this; cases this
end LA

set_option maxHeartbeats 1000000
namespace LA
open PySem PySem.Spec PyProof.Rows L2 LamX
end LA

set_option maxHeartbeats 1000000
namespace LA
open PySem PySem.Spec PyProof.Rows L2 LamX
end LA

set_option maxHeartbeats 1000000
namespace LA
open PySem PySem.Spec PyProof.Rows L2 LamX
/-- a relation that is named with these goals: all that can be chosen has a smaller rank -/
def NmIs (rs : List Rel) (G : List Nat) (q : Rel) : Prop := ∃ m, RkIs rs G (some m) ∧ q ∈ rs ∧ ∀ g ∈ G, lostN rs m (q.getD g []) = true
end LA

set_option maxHeartbeats 1000000
namespace LA
open PySem PySem.Spec PyProof.Rows L2 LamX
theorem RkAt.pos {K : PySem.W.Frag} {P : Program} {w : World} {H : Hp} {d : Addr} {n : Nat} {rs : List Rel} (h : RkAt K P w H d n rs) : ∃ (L : List DnE) (ep : Nat), H d = some (DictN P w d L ep) ∧ KeysN K H L ∧ L.length ≤ n * rs.length ∧ (L.map (·.1)).Nodup ∧ (∀ s r, s < n → r ∈ rs → (atN L (poK s r)).isSome = lostG rs (r.getD s [])) ∧ (∀ s r c v, atN L (poK s r) = some (c, v) → ∃ m, v = nV m ∧ RkIs rs (r.getD s []) (some m)) ∧ ∀ l ∈ L, ∃ s r, s < n ∧ r ∈ rs ∧ l.1 = poK s r := by
  obtain ⟨k, L, ep, h1, h2⟩ := h
  refine ⟨L, ep, h1.at_, h1.keys, h1.len, h1.nd, fun s r hs hr => ?_, fun s r c v e => h1.get e, fun l hl => ?_⟩
  · rw [h1.is hs hr, Bool.eq_iff_iff, lostG_iff]
    exact ⟨fun e => ⟨k, e⟩, fun ⟨m, e⟩ => h2 s r hs hr m e⟩
  · obtain ⟨s, r, m, a, b, c, _⟩ := h1.val l hl
    exact ⟨s, r, a, b, c⟩
theorem isSome_mem {L : List DnE} {k : NestedKey} : (atN L k).isSome = true ↔ ∃ l ∈ L, l.1 = k := by
  unfold atN
  rw [Option.isSome_map, List.find?_isSome]
  exact ⟨fun ⟨l, a, b⟩ => ⟨l, a, of_decide_eq_true b⟩, fun ⟨l, a, b⟩ => ⟨l, a, decide_eq_true b⟩⟩
theorem RkAt.sx {K : PySem.W.Frag} {P : Program} {w : World} {H H' : Hp} {d p : Addr} {n : Nat} {rs : List Rel} (h : RkAt K P w H d n rs) (X : SameX p H H') (t : SameT H H') (ne : d ≠ p) : RkAt K P w H' d n rs := by
  obtain ⟨k, L, ep, a, b⟩ := h
  exact ⟨k, L, ep, ⟨X _ _ a.at_ ne, a.keys.t t, a.nd, a.val, a.all⟩, b⟩
end LA

set_option maxHeartbeats 4000000
namespace LA
open PySem PySem.Spec PyProof.Rows L2
abbrev ClL := List (Value × Option Nat × (Addr → Value → Option Addr → TS))
section
variable {X : Cx} {body : List Stmt} {h₀ : ExceptHandler} {hds : List ExceptHandler} {l : ClL} {pos : Pos} {tb : WX → TS} {Wout : WX}
end
end LA

set_option maxHeartbeats 1000000
namespace LA
open PySem PySem.Spec PyProof.Rows L2 LamX
end LA

set_option maxHeartbeats 4000000
namespace LA
open PySem L2
theorem cut_mid (xs : List V) (a b : Nat) (hb : b ≤ xs.length) : cutV xs (some (a : Int)) (some (b : Int)) = (xs.take b).drop a := by
  unfold cutV
  rw [HT.sIx_nat, HT.sIx_nat, Nat.min_eq_left hb]
  rcases Nat.lt_or_ge xs.length a with h | h
  · rw [Nat.min_eq_right (by omega), List.drop_of_length_le (Nat.le_refl _), List.drop_of_length_le (by rw [List.length_take]; omega)]; simp
  · rw [Nat.min_eq_left h, List.drop_take]
end LA
namespace LA
open PySem L2
end LA

set_option maxHeartbeats 4000000
namespace LA
open PySem L2
end LA
namespace LA
open PySem PySem.Spec PyProof.Rows L2
end LA

set_option maxHeartbeats 4000000
namespace LA
open PySem PySem.Spec PyProof.Rows L2
section
variable {X : Cx} {k j : Nat} {C : Addr} {sp : Sp}
end
end LA

set_option maxHeartbeats 4000000
namespace LA
open PySem L2
theorem nats_dpA {K : PySem.W.Frag} {H : Hp} : ∀ u : List Nat, DpAll K H (u.map nV) (u.map nD)
  | [] => .nil
  | a :: u => .cons (.int _) (nats_dpA u)
theorem TrAt.dp {K : PySem.W.Frag} {H : Hp} {v : V} {r : Row3} (h : TrAt K H v r) : Dp K H v (rowD r) := by
  obtain ⟨a, b, c, rfl, q, ⟨b', e1, q1⟩, ⟨c', e2, q2⟩⟩ := h
  cases e1; cases e2
  exact .tup q (.cons (.int _) (.cons (.tup q1 (nats_dpA _)) (.cons (.tup q2 (nats_dpA _)) .nil)))
theorem rows_dp {K : PySem.W.Frag} {H : Hp} : ∀ {vs : List V} {t : List Row3}, Paired (TrAt K H) vs t → DpAll K H vs (t.map rowD)
  | _, _, .nil => .nil
  | _, _, .cons h q => .cons h.dp (rows_dp q)
theorem TbAt.dp {K : PySem.W.Frag} {H : Hp} {v : V} {t : List Row3} (h : TbAt K H v t) : Dp K H v (tabD t) := by
  obtain ⟨a, vs, rfl, q, p⟩ := h
  exact .tup q (rows_dp p)
/-- another converter feeds: this one stays -/
theorem Cv.other {K : PySem.W.Frag} {P : Program} {w : World} {H H' : Hp} {C x dx ad ll ol x2 dx2 ad2 ll2 ol2 : Addr} {jv tv jv2 tv2 : V} {j j2 : Jd} {nx ny k nx2 ny2 k2 : Nat} {t t2 : List Row3} {ls ls2 : List Nat} (h : Cv K P w H C x dx ad ll ol jv tv j nx ny k t ls) (c : Cv K P w H C x2 dx2 ad2 ll2 ol2 jv2 tv2 j2 nx2 ny2 k2 t2 ls2)
    (W : SameW (fun b => b = x2 ∨ b = ll2 ∨ b = ol2) H H') (n1 : x ≠ x2) (n2 : ll ≠ ll2) (n3 : ll ≠ ol2) (n4 : ol ≠ ll2) (n5 : ol ≠ ol2) : Cv K P w H' C x dx ad ll ol jv tv j nx ny k t ls := by
  have a1 := h.lst_ne c.ltt
  have a2 := h.lst_ne c.out
  have b1 := c.lst_ne h.ltt
  have b2 := c.lst_ne h.out
  obtain ⟨L, ep, hd⟩ := h.td
  refine h.fr W (c.t3 W) ?_ ?_ ?_ ?_ ?_
  · rintro (e | e | e)
    · exact n1 e
    · exact a1.1 e
    · exact a2.1 e
  · rintro (e | e | e)
    · have z := h.own; rw [e, c.ins] at z; cases z
    · exact a1.2.1 e
    · exact a2.2.1 e
  · rintro (e | e | e)
    · have z := hd.at_; rw [e, c.ins] at z; unfold DictN at z; cases z
    · exact a1.2.2 e
    · exact a2.2.2 e
  · rintro (e | e | e)
    · exact b1.1 e.symm
    · exact n2 e
    · exact n3 e
  · rintro (e | e | e)
    · exact b2.1 e.symm
    · exact n4 e
    · exact n5 e
end LA

set_option maxHeartbeats 1000000
namespace LA
open PySem PySem.Spec PyProof.Rows L2 LamX
/-- all that stays in a law of the block game -/
structure W46 (K : PySem.W.Frag) (P : Program) (w : World) (H : Hp) (lq rd : Addr) (jv : V) (j : Jd) (bs : List Rel) (lvs : List V) : Prop where
  J : JAt K H jv j
  q : H lq = some (.lst lvs)
  pr : Paired (RAt K H) lvs (sortR bs)
  R : RkAt K P w H rd j.length (sortR bs)
theorem W46.s {K : PySem.W.Frag} {P : Program} {w : World} {H H' : Hp} {lq rd : Addr} {jv : V} {j : Jd} {bs : List Rel} {lvs : List V} (h : W46 K P w H lq rd jv j bs lvs) (S : Same H H') : W46 K P w H' lq rd jv j bs lvs :=
  ⟨h.J.t (Same.t S), S _ _ h.q, paired_map h.pr fun _ _ z => z.t (Same.t S), h.R.same S⟩
theorem PotAt.other {H H' : Hp} {p q : Addr} {n : Nat} (h : PotAt H p n) (X : SameX q H H') (ne : p ≠ q) : PotAt H' p n := by
  obtain ⟨a, b, c, h1, r⟩ := h
  exact ⟨a, b, c, X _ _ h1 ne, r⟩
end LA

set_option maxHeartbeats 1000000
namespace LA
open PySem L2
theorem dqAll_cons {K : PySem.W.Frag} {p : Addr} {Z : Addr → Prop} {H : Hp} {xs : List V} {d : PyData} {ds : List PyData} (h : DqAll K p Z H xs (d :: ds)) : ∃ v ys, xs = v :: ys ∧ Dq K p Z H v d ∧ DqAll K p Z H ys ds := by
  cases h with
  | cons h1 h2 => exact ⟨_, _, rfl, h1, h2⟩
end LA

set_option maxHeartbeats 1000000
namespace LA
open PySem PySem.Spec PyProof.Rows L2
/-- the states with which a relation is among positions -/
def stOf (ps : List (Nat × Rel)) (r : Rel) : List Nat := (ps.filter fun p => decide (p.2 = r)).map (·.1)
theorem isNB_nat {n : Nat} {d : PyData} (h : isNB (n : Int) d = true) : ∃ k : Nat, d = .int (k : Int) ∧ k < n := by
  unfold isNB at h
  split at h
  · rename_i i
    simp only [Bool.and_eq_true, decide_eq_true_eq] at h
    exact ⟨i.toNat, by rw [Int.toNat_of_nonneg h.1], by omega⟩
  · cases h
/-- the dict that has for each relation the list of its states -/
structure HlAt (K : PySem.W.Frag) (P : Program) (w : World) (H : Hp) (d : Addr) (rs : List Rel) (ps : List (Nat × Rel)) (L : List DnE) (ep : Nat) : Prop where
  at_ : H d = some (DictN P w d L ep)
  keys : KeysN K H L
  ks : L.map (·.1) = rs.map rK
  val : ∀ l ∈ L, ∃ r a, l.1 = rK r ∧ l.2.2 = .ref a ∧ a ≠ d ∧ H a = some (.lst ((stOf ps r).map nV))
  inj : ∀ l ∈ L, ∀ l' ∈ L, l.2.2 = l'.2.2 → l.1 = l'.1
theorem HlAt.s {K : PySem.W.Frag} {P : Program} {w : World} {H H' : Hp} {d : Addr} {rs : List Rel} {ps : List (Nat × Rel)} {L : List DnE} {ep : Nat} (h : HlAt K P w H d rs ps L ep) (s : Same H H') : HlAt K P w H' d rs ps L ep :=
  ⟨s _ _ h.at_, h.keys.t (Same.t s), h.ks, fun l hl => let ⟨r, a, e1, e2, e3, e4⟩ := h.val l hl; ⟨r, a, e1, e2, e3, s _ _ e4⟩, h.inj⟩
theorem HlAt.get {K : PySem.W.Frag} {P : Program} {w : World} {H : Hp} {d : Addr} {rs : List Rel} {ps : List (Nat × Rel)} {L : List DnE} {ep : Nat} (h : HlAt K P w H d rs ps L ep) {r : Rel} (hr : r ∈ rs) : ∃ c a, atN L (rK r) = some (c, .ref a) ∧ a ≠ d ∧ H a = some (.lst ((stOf ps r).map nV)) ∧ ∃ l ∈ L, l.1 = rK r ∧ l.2.2 = .ref a := by
  have := at_keys h.ks (r := r)
  rw [decide_eq_true hr] at this
  obtain ⟨⟨c, v⟩, hcv⟩ := Option.isSome_iff_exists.mp this
  have hm : (rK r, c, v) ∈ L := by
    unfold atN at hcv
    obtain ⟨l, hl, e⟩ := Option.map_eq_some_iff.mp hcv
    have h1 : l.1 = rK r := of_decide_eq_true (List.find?_some (p := fun l : DnE => decide (l.1 = rK r)) hl)
    have h2 := List.mem_of_find?_eq_some hl
    have : l = (rK r, c, v) := by
      cases l with
      | mk x y => rw [← h1, ← e]
    rw [← this]; exact h2
  obtain ⟨r', a, e1, e2, e3, e4⟩ := h.val _ hm
  have := rK_inj e1
  subst this
  have e2' : v = V.ref a := e2
  subst e2'
  exact ⟨c, a, hcv, e3, e4, _, hm, rfl, rfl⟩
theorem key_uniq : ∀ {L : List DnE}, (L.map (·.1)).Nodup → ∀ l ∈ L, ∀ l' ∈ L, l.1 = l'.1 → l = l'
  | [], _, _, h, _, _, _ => by cases h
  | x :: L, nd, l, h, l', h', e => by
    rw [List.map_cons, List.nodup_cons] at nd
    rcases List.mem_cons.mp h with c | c <;> rcases List.mem_cons.mp h' with c' | c'
    · rw [c, c']
    · exact absurd (show x.1 ∈ L.map (·.1) from List.mem_map.mpr ⟨l', c', by rw [← e, c]⟩) nd.1
    · exact absurd (show x.1 ∈ L.map (·.1) from List.mem_map.mpr ⟨l, c, by rw [e, c']⟩) nd.1
    · exact key_uniq nd.2 l c l' c' e
theorem stOf_snoc (ps : List (Nat × Rel)) (s : Nat) (r r' : Rel) : stOf (ps ++ [(s, r)]) r' = if r = r' then stOf ps r' ++ [s] else stOf ps r' := by
  unfold stOf
  rw [List.filter_append, List.map_append]
  by_cases e : r = r'
  · rw [if_pos e, List.filter_cons_of_pos (by simpa using e)]; rfl
  · rw [if_neg e, List.filter_cons_of_neg (by simpa using e)]; simp
theorem HlAt.push {K : PySem.W.Frag} {P : Program} {w : World} {H : Hp} {d : Addr} {rs : List Rel} {ps : List (Nat × Rel)} {L : List DnE} {ep : Nat} (h : HlAt K P w H d rs ps L ep) (nd : rs.Nodup) (s : Nat) {r : Rel} (hr : r ∈ rs) :
    ∃ c b, atN L (rK r) = some (c, .ref b) ∧ (∃ l ∈ L, l.2.2 = .ref b) ∧ H b = some (.lst ((stOf ps r).map nV)) ∧ HlAt K P w (upd H b (.lst ((stOf ps r).map nV ++ [nV s]))) d rs (ps ++ [(s, r)]) L ep := by
  obtain ⟨c, b, e1, e2, e3, l0, hl0, e4, e5⟩ := h.get hr
  have ndk : (L.map (·.1)).Nodup := by
    rw [h.ks]
    exact List.pairwise_map.mpr (nd.imp fun z e => z (rK_inj e))
  refine ⟨c, b, e1, ⟨l0, hl0, e5⟩, e3, ⟨(upd_ne (Ne.symm e2)).trans h.at_, h.keys.t (SameT.lst e3), h.ks, fun l hl => ?_, h.inj⟩⟩
  obtain ⟨r', a, g1, g2, g3, g4⟩ := h.val l hl
  refine ⟨r', a, g1, g2, g3, ?_⟩
  rw [stOf_snoc]
  by_cases z : r = r'
  · subst z
    have := key_uniq ndk l hl l0 hl0 (g1.trans e4.symm)
    subst this
    rw [g2] at e5
    injection e5 with e5
    subst e5
    rw [if_pos rfl, upd_same, List.map_append]; rfl
  · have : a ≠ b := fun z2 => by
      subst z2
      have := h.inj l hl l0 hl0 (g2.trans e5.symm)
      rw [g1, e4] at this
      exact z (rK_inj this).symm
    rw [if_neg z, upd_ne this]; exact g4
theorem GoS.s {K : PySem.W.Frag} {w : World} {H H' : Hp} {D : Addr} {all as : List (List Nat)} (h : GoS K w H D all as) (s : Same H H') : GoS K w H' D all as :=
  let ⟨L, a, b, c, d, e⟩ := h; ⟨L, s _ _ a, b.t (Same.t s), c, d, e⟩
end LA

set_option maxHeartbeats 4000000
namespace LA
open PySem PySem.Spec PyProof.Rows L2
section
variable {X : Cx}
end
end LA

set_option maxHeartbeats 1000000
namespace LA
open PySem PySem.Spec PyProof.Rows L2
/-- an item: a pair of any two small things -/
def Pr2 (e : PyData) : Prop := ∃ a b, e = .tuple [a, b] ∧ Bd (10 ^ 31) 950 8 a ∧ Bd (10 ^ 31) 950 8 b
def OutD (m : Nat) (d : PyData) : Prop := ∃ fs : List PyData, (d = .tuple fs ∨ d = .list fs) ∧ (∀ e ∈ fs, Pr2 e) ∧ fs.length ≤ m + 1
theorem Pr2.bd {e : PyData} (h : Pr2 e) : Bd (10 ^ 31) 1910 9 e := by
  obtain ⟨a, b, rfl, ha, hb⟩ := h
  exact (Bd.tup (Bds.cons ha (Bds.cons hb (Bds.nil (s := 0))))).mono (Nat.le_refl _) (by omega) (Nat.le_refl _)
theorem Pr2.split {K : PySem.W.Frag} {p : Addr} {Z : Addr → Prop} {H : Hp} {v : V} {e : PyData} (h : Pr2 e) (hd : Dq K p Z H v e) : ∃ t x y a b, v = .ref t ∧ e = .tuple [a, b] ∧ SqT K H t [x, y] ∧ Dq K p Z H x a ∧ Dq K p Z H y b ∧ Bd (10 ^ 31) 950 8 a ∧ Bd (10 ^ 31) 950 8 b := by
  obtain ⟨a, b, rfl, ha, hb⟩ := h
  cases hd with
  | tup hs hA =>
    obtain ⟨x, ys, rfl, h1, h2⟩ := dqAll_cons hA
    obtain ⟨y, ys2, rfl, h3, h4⟩ := dqAll_cons h2
    cases h4
    exact ⟨_, x, y, a, b, rfl, rfl, hs, h1, h3, ha, hb⟩
theorem pr2_bds : ∀ {es : List PyData}, (∀ e ∈ es, Pr2 e) → Bds (10 ^ 31) (1912 * es.length) 9 es
  | [], _ => Bds.nil
  | e :: es, h => (Bds.cons (h e List.mem_cons_self).bd (pr2_bds fun x hx => h x (List.mem_cons_of_mem _ hx))).mono (Nat.le_refl _) (by simp only [List.length_cons]; omega) (Nat.le_refl _)
theorem OutD.bd {m : Nat} {d : PyData} (h : OutD m d) (hm : m ≤ 500) : Bd (10 ^ 31) 1000000 60 d := by
  obtain ⟨fs, h1, h2, h3⟩ := h
  have hb := pr2_bds h2
  rcases h1 with rfl | rfl
  · exact (Bd.tup hb).mono (Nat.le_refl _) (by omega) (by omega)
  · exact (Bd.lst hb).mono (Nat.le_refl _) (by omega) (by omega)
/-- a thing that is asked -/
def Th47 (K : PySem.W.Frag) (p lv : Addr) (H : Hp) (v : V) : Prop := ∃ d, Dq K p (· = lv) H v d ∧ Bd (10 ^ 31) 1000000 60 d ∧ ∀ ds, d = .tuple ds → ds.length < 4096
theorem Th47.mv {K : PySem.W.Frag} {p lv : Addr} {H H' : Hp} {v : V} {n : Nat} (h : Th47 K p lv H v) (P : PotAt H p n) (s : SameX p H H') : Th47 K p lv H' v := let ⟨d, a, b, c⟩ := h; ⟨d, a.mv P s, b, c⟩
theorem Th47.same {K : PySem.W.Frag} {p lv : Addr} {H H' : Hp} {v : V} (h : Th47 K p lv H v) (s : Same H H') : Th47 K p lv H' v := let ⟨d, a, b, c⟩ := h; ⟨d, a.same s, b, c⟩
theorem Th47.own {K : PySem.W.Frag} {p lv : Addr} {H : Hp} {v : V} {ys zs : List V} (h : Th47 K p lv H v) (e : H lv = some (.lst ys)) : Th47 K p lv (upd H lv (.lst zs)) v := let ⟨d, a, b, c⟩ := h; ⟨d, Dq.own (Z := (· = lv)) e rfl d v a, b, c⟩
theorem Th47.out {K : PySem.W.Frag} {p lv : Addr} {H : Hp} {v : V} {m : Nat} {d : PyData} (h : Dq K p (· = lv) H v d) (o : OutD m d) (hm : m ≤ 500) : Th47 K p lv H v := ⟨d, h, o.bd hm, fun ds e => by
  obtain ⟨fs, h1, _, h3⟩ := o
  rcases h1 with rfl | rfl
  · injection e with e
    rw [← e]; omega
  · cases e⟩
theorem PoAt.dq {K : PySem.W.Frag} {p : Addr} {Z : Addr → Prop} {H : Hp} {v : V} {q : Nat × Rel} (h : PoAt K H v q) : Dq K p Z H v (poD q) := by
  obtain ⟨t, rv, rfl, hT, hR⟩ := h
  exact .tup hT (.cons (.int _) (.cons hR.dq .nil))
/-- what stays while things are drawn -/
structure B47 (K : PySem.W.Frag) (H : Hp) (jv : V) (j : Jd) (lq : Addr) (lvs : List V) (rs : List Rel) (q : Addr) (us : List V) (qs : List (Nat × Rel)) : Prop where
  J : JAt K H jv j
  l : H lq = some (.lst lvs)
  r : Paired (RAt K H) lvs rs
  t : SqT K H q us
  s : Paired (PoAt K H) us qs
theorem B47.same {K : PySem.W.Frag} {H H' : Hp} {jv : V} {j : Jd} {lq : Addr} {lvs : List V} {rs : List Rel} {q : Addr} {us : List V} {qs : List (Nat × Rel)} (h : B47 K H jv j lq lvs rs q us qs) (S : Same H H') : B47 K H' jv j lq lvs rs q us qs :=
  ⟨h.J.t (Same.t S), S _ _ h.l, paired_map h.r fun _ _ z => z.t (Same.t S), (Same.t S).seq h.t, paired_map h.s fun _ _ z => z.t (Same.t S)⟩
theorem B47.mv {K : PySem.W.Frag} {H H' : Hp} {jv : V} {j : Jd} {lq p : Addr} {lvs : List V} {rs : List Rel} {q : Addr} {us : List V} {qs : List (Nat × Rel)} {n : Nat} (h : B47 K H jv j lq lvs rs q us qs) (P : PotAt H p n) (X : SameX p H H') (ne : lq ≠ p) : B47 K H' jv j lq lvs rs q us qs :=
  ⟨h.J.t (P.t X), X _ _ h.l ne, paired_map h.r fun _ _ z => z.t (P.t X), (P.t X).seq h.t, paired_map h.s fun _ _ z => z.t (P.t X)⟩
theorem B47.own {K : PySem.W.Frag} {H : Hp} {jv : V} {j : Jd} {lq lv : Addr} {lvs : List V} {rs : List Rel} {q : Addr} {us : List V} {qs : List (Nat × Rel)} {ys zs : List V} (h : B47 K H jv j lq lvs rs q us qs) (e : H lv = some (.lst ys)) (ne : lq ≠ lv) : B47 K (upd H lv (.lst zs)) jv j lq lvs rs q us qs :=
  have t := SameT.lst (ys := zs) e
  ⟨h.J.t t, (upd_ne ne).trans h.l, paired_map h.r fun _ _ z => z.t t, t.seq h.t, paired_map h.s fun _ _ z => z.t t⟩
end LA

set_option maxHeartbeats 1000000
namespace LA
open PySem PySem.Spec PyProof.Rows L2 LamX
abbrev Ply := Nat × Rel × Rel
def posP (p : Ply) : Nat × Rel := (p.1, p.2.1)
def PlyAt (K : PySem.W.Frag) (H : Hp) (v : V) (p : Ply) : Prop := ∃ (t : Addr) (rv lv : V), v = .ref t ∧ SqT K H t [nV p.1, rv, lv] ∧ RAt K H rv p.2.1 ∧ RAt K H lv p.2.2
theorem PlyAt.t {K : PySem.W.Frag} {H H' : Hp} {v : V} {p : Ply} (h : PlyAt K H v p) (s : SameT H H') : PlyAt K H' v p :=
  let ⟨t, rv, lv, e, a, b, c⟩ := h; ⟨t, rv, lv, e, s.seq a, b.t s, c.t s⟩
/-- what is met and what is played, while some positions are ready -/
structure PlysI (n : Nat) (rs : List Rel) (r0 : Rel) (ps : List Ply) (rd : List (Nat × Rel)) (ms : List (Nat × Rel)) : Prop where
  nd : ms.Nodup
  ok : ∀ p ∈ ps, p.1 < n ∧ p.2.1 ∈ rs ∧ NmIs rs (p.2.1.getD p.1 []) p.2.2
  lost : ∀ q ∈ rd, q.1 < n ∧ q.2 ∈ rs ∧ lostG rs (q.2.getD q.1 []) = true
  all : ms.Perm (ps.map posP ++ rd)
  start : (0, r0) ∈ ms
  next : ∀ p ∈ ps, ∀ g ∈ p.2.1.getD p.1 [], (g, p.2.2) ∈ ms
  from_ : ∀ q ∈ ms, q = (0, r0) ∨ ∃ p ∈ ps, q.1 ∈ p.2.1.getD p.1 [] ∧ q.2 = p.2.2
/-- all plays -/
def PlysOk (n : Nat) (rs : List Rel) (r0 : Rel) (ps : List Ply) : Prop := PlysI n rs r0 ps [] (ps.map posP)
/-- the dict of the positions that are met -/
structure MtD (K : PySem.W.Frag) (P : Program) (w : World) (H : Hp) (d : Addr) (ms : List (Nat × Rel)) (L : List DnE) (ep : Nat) : Prop where
  at_ : H d = some (DictN P w d L ep)
  keys : KeysN K H L
  ks : L.map (·.1) = ms.map fun q => poK q.1 q.2
theorem MtD.x {K : PySem.W.Frag} {P : Program} {w : World} {H H' : Hp} {d : Addr} {ms : List (Nat × Rel)} {L : List DnE} {ep : Nat} (h : MtD K P w H d ms L ep) (e : H' d = H d) (t : SameT H H') : MtD K P w H' d ms L ep := ⟨e.trans h.at_, h.keys.t t, h.ks⟩
theorem MtD.same {K : PySem.W.Frag} {P : Program} {w : World} {H H' : Hp} {d : Addr} {ms : List (Nat × Rel)} {L : List DnE} {ep : Nat} (h : MtD K P w H d ms L ep) (s : Same H H') : MtD K P w H' d ms L ep := ⟨s _ _ h.at_, h.keys.t (Same.t s), h.ks⟩
theorem MtD.is {K : PySem.W.Frag} {P : Program} {w : World} {H : Hp} {d : Addr} {ms : List (Nat × Rel)} {L : List DnE} {ep : Nat} (h : MtD K P w H d ms L ep) (s : Nat) (r : Rel) : (atN L (poK s r)).isSome = decide ((s, r) ∈ ms) := by
  rw [Bool.eq_iff_iff, isSome_mem, decide_eq_true_iff]
  have hk : poK s r ∈ L.map (·.1) ↔ poK s r ∈ ms.map fun q => poK q.1 q.2 := by rw [h.ks]
  rw [List.mem_map, List.mem_map] at hk
  constructor
  · rintro ⟨l, hl, e⟩
    obtain ⟨q, hq, e2⟩ := hk.mp ⟨l, hl, e⟩
    obtain ⟨a, b⟩ := poK_inj e2
    have : q = (s, r) := Prod.ext a b
    rw [← this]; exact hq
  · intro z
    exact hk.mpr ⟨(s, r), z, rfl⟩
theorem MtD.len {K : PySem.W.Frag} {P : Program} {w : World} {H : Hp} {d : Addr} {ms : List (Nat × Rel)} {L : List DnE} {ep : Nat} (h : MtD K P w H d ms L ep) : L.length = ms.length := by
  have := congrArg List.length h.ks
  rw [List.length_map, List.length_map] at this
  exact this
theorem MtD.put {K : PySem.W.Frag} {P : Program} {w : World} {H : Hp} {d b : Addr} {ms : List (Nat × Rel)} {L : List DnE} {ep ep' : Nat} {s : Nat} {r : Rel} {v : V} (h : MtD K P w H d ms L ep) (hn : (s, r) ∉ ms) (hb : NkV K H (.ref b) (poK s r)) :
    MtD K P w (upd H d (DictN P w d (storeN L (poK s r) b v) ep')) d (ms ++ [(s, r)]) (storeN L (poK s r) b v) ep' := by
  have t : SameT H (upd H d (DictN P w d (storeN L (poK s r) b v) ep')) := sameT_ext (φ := _) h.at_
  refine ⟨upd_same, (h.keys.store hb (poK_depth _ _)).t t, ?_⟩
  have e : (atN L (poK s r)).isSome = false := by rw [h.is, decide_eq_false hn]
  unfold storeN
  rw [if_neg (by rw [e]; decide), List.map_append, List.map_append, h.ks]
  rfl
/-- some goals of a position that is played are met -/
structure PlysG (n : Nat) (rs : List Rel) (r0 : Rel) (ps : List Ply) (p : Ply) (gs : List Nat) (rd : List (Nat × Rel)) (ms : List (Nat × Rel)) : Prop where
  nd : ms.Nodup
  ok : ∀ q ∈ ps ++ [p], q.1 < n ∧ q.2.1 ∈ rs ∧ NmIs rs (q.2.1.getD q.1 []) q.2.2
  lost : ∀ q ∈ rd, q.1 < n ∧ q.2 ∈ rs ∧ lostG rs (q.2.getD q.1 []) = true
  all : ms.Perm ((ps ++ [p]).map posP ++ rd)
  start : (0, r0) ∈ ms
  next : ∀ q ∈ ps, ∀ g ∈ q.2.1.getD q.1 [], (g, q.2.2) ∈ ms
  here : ∀ g ∈ gs, (g, p.2.2) ∈ ms
  from_ : ∀ q ∈ ms, q = (0, r0) ∨ ∃ p' ∈ ps ++ [p], q.1 ∈ p'.2.1.getD p'.1 [] ∧ q.2 = p'.2.2
theorem PlysG.done {n : Nat} {rs : List Rel} {r0 : Rel} {ps : List Ply} {p : Ply} {rd ms : List (Nat × Rel)} (h : PlysG n rs r0 ps p (p.2.1.getD p.1 []) rd ms) : PlysI n rs r0 (ps ++ [p]) rd ms :=
  ⟨h.nd, h.ok, h.lost, h.all, h.start, fun q hq => by
    rcases List.mem_append.mp hq with hq | hq
    · exact h.next q hq
    · rw [List.mem_singleton.mp hq]; exact h.here, h.from_⟩
theorem PlysG.old {n : Nat} {rs : List Rel} {r0 : Rel} {ps : List Ply} {p : Ply} {gs : List Nat} {rd ms : List (Nat × Rel)} {g : Nat} (h : PlysG n rs r0 ps p gs rd ms) (hg : (g, p.2.2) ∈ ms) : PlysG n rs r0 ps p (gs ++ [g]) rd ms :=
  ⟨h.nd, h.ok, h.lost, h.all, h.start, h.next, fun x hx => by
    rcases List.mem_append.mp hx with hx | hx
    · exact h.here x hx
    · rw [List.mem_singleton.mp hx]; exact hg, h.from_⟩
theorem PlysG.new {n : Nat} {rs : List Rel} {r0 : Rel} {ps : List Ply} {p : Ply} {gs : List Nat} {rd ms : List (Nat × Rel)} {g : Nat} (h : PlysG n rs r0 ps p gs rd ms) (hg : (g, p.2.2) ∉ ms) (hn : g < n) (hin : g ∈ p.2.1.getD p.1 []) : PlysG n rs r0 ps p (gs ++ [g]) (rd ++ [(g, p.2.2)]) (ms ++ [(g, p.2.2)]) := by
  have hp := h.ok p (List.mem_append_right _ List.mem_cons_self)
  obtain ⟨_, _, m, hm, hr, hl⟩ := hp
  refine ⟨List.nodup_append.mpr ⟨h.nd, by simp, fun a ha b hb e => ?_⟩, h.ok, fun q hq => ?_, ?_, List.mem_append_left _ h.start, fun q hq x hx => List.mem_append_left _ (h.next q hq x hx), fun x hx => ?_, fun q hq => ?_⟩
  · rw [List.mem_singleton.mp hb] at e
    rw [e] at ha; exact hg ha
  · rcases List.mem_append.mp hq with hq | hq
    · exact h.lost q hq
    · rw [List.mem_singleton.mp hq]
      exact ⟨hn, hr, lostG_iff.mpr ⟨_, hl g hin⟩⟩
  · rw [← List.append_assoc]
    exact h.all.append_right _
  · rcases List.mem_append.mp hx with hx | hx
    · exact List.mem_append_left _ (h.here x hx)
    · rw [List.mem_singleton.mp hx]; exact List.mem_append_right _ List.mem_cons_self
  · rcases List.mem_append.mp hq with hq | hq
    · exact h.from_ q hq
    · rw [List.mem_singleton.mp hq]
      exact .inr ⟨p, List.mem_append_right _ List.mem_cons_self, hin, rfl⟩
theorem PlysI.len {n : Nat} {rs : List Rel} {r0 : Rel} {ps : List Ply} {rd ms : List (Nat × Rel)} (h : PlysI n rs r0 ps rd ms) : ps.length + rd.length ≤ n * rs.length := by
  have h1 : ms.length ≤ (psAll n rs).length := nodup_len h.nd fun q hq => by
    rcases List.mem_append.mp (h.all.mem_iff.mp hq) with z | z
    · obtain ⟨p, hp, rfl⟩ := List.mem_map.mp z
      exact mem_psAll.mpr ⟨(h.ok p hp).1, (h.ok p hp).2.1⟩
    · exact mem_psAll.mpr ⟨(h.lost q z).1, (h.lost q z).2.1⟩
  have h2 := h.all.length_eq
  rw [psAll_len] at h1
  rw [List.length_append, List.length_map] at h2
  omega
theorem PlysG.len {n : Nat} {rs : List Rel} {r0 : Rel} {ps : List Ply} {p : Ply} {gs : List Nat} {rd ms : List (Nat × Rel)} (h : PlysG n rs r0 ps p gs rd ms) : ps.length + 1 + rd.length ≤ n * rs.length := by
  have h1 : ms.length ≤ (psAll n rs).length := nodup_len h.nd fun q hq => by
    rcases List.mem_append.mp (h.all.mem_iff.mp hq) with z | z
    · obtain ⟨p, hp, rfl⟩ := List.mem_map.mp z
      exact mem_psAll.mpr ⟨(h.ok p hp).1, (h.ok p hp).2.1⟩
    · exact mem_psAll.mpr ⟨(h.lost q z).1, (h.lost q z).2.1⟩
  have h2 := h.all.length_eq
  rw [psAll_len] at h1
  rw [List.length_append, List.length_map, List.length_append, List.length_singleton] at h2
  omega
end LA

set_option maxHeartbeats 1000000
namespace LA
open PySem PySem.Spec PyProof.Rows L2 LamX
def PRk (rs : List Rel) (p : Ply) (m : Nat) : Prop := RkIs rs (p.2.1.getD p.1 []) (some m)
theorem rk_some {rs : List Rel} {G : List Nat} {a b : Nat} (h : RkIs rs G (some a)) (h' : RkIs rs G (some b)) : a = b := by
  have := RkIs.uniq h h'
  injection this
theorem lost_upto {rs : List Rel} {G : List Nat} {k m : Nat} (h : lostN rs k G = true) (hm : k ≤ m) : lostN rs m G = true := by
  induction m with
  | zero => rw [show k = 0 by omega] at h; exact h
  | succ m ih =>
    by_cases e : k = m + 1
    · rw [← e]; exact h
    · exact lost_up (ih (by omega))
theorem PlysOk.rk {n : Nat} {rs : List Rel} {r0 : Rel} {ps : List Ply} (h : PlysOk n rs r0 ps) {p : Ply} (hp : p ∈ ps) : ∃ m, PRk rs p m := by
  obtain ⟨_, _, m, hm, _⟩ := h.ok p hp
  exact ⟨m, hm⟩
/-- what can be chosen next has a smaller rank -/
theorem PlysOk.less {n : Nat} {rs : List Rel} {r0 : Rel} {ps : List Ply} (h : PlysOk n rs r0 ps) {p q : Ply} {g m m' : Nat} (hp : p ∈ ps) (hg : g ∈ p.2.1.getD p.1 []) (hq : posP q = (g, p.2.2)) (h1 : PRk rs p m) (h2 : PRk rs q m') : m' < m := by
  obtain ⟨_, _, k, hk, _, hl⟩ := h.ok p hp
  have := rk_some h1 hk
  subst this
  have e1 : q.1 = g := congrArg Prod.fst hq
  have e2 : q.2.1 = p.2.2 := congrArg Prod.snd hq
  have hl' := hl g hg
  rw [← e1, ← e2] at hl'
  by_cases c : m' < m
  · exact c
  · have := lost_upto hl' (show m ≤ m' by omega)
    rw [h2.1] at this; cases this
theorem PlysOk.pos_inj {n : Nat} {rs : List Rel} {r0 : Rel} {ps : List Ply} (h : PlysOk n rs r0 ps) {p q : Ply} (hp : p ∈ ps) (hq : q ∈ ps) (e : posP p = posP q) : p = q := by
  have nd : (ps.map posP).Nodup := h.nd
  obtain ⟨i, hi, rfl⟩ := List.getElem_of_mem hp
  obtain ⟨k, hk, rfl⟩ := List.getElem_of_mem hq
  have : i = k := by
    by_cases c : i = k
    · exact c
    · exfalso
      rcases Nat.lt_or_gt_of_ne c with z | z
      · exact List.pairwise_iff_getElem.mp nd i k (by simpa using hi) (by simpa using hk) z (by simpa using e)
      · exact List.pairwise_iff_getElem.mp nd k i (by simpa using hk) (by simpa using hi) z (by simpa using e.symm)
  subst this; rfl
theorem bound_ex {α : Type} (f : α → Nat → Prop) : ∀ l : List α, (∀ x ∈ l, ∃ m, f x m) → (∀ x a b, f x a → f x b → a = b) → ∃ M, ∀ x ∈ l, ∀ m, f x m → m ≤ M
  | [], _, _ => ⟨0, nofun⟩
  | x :: l, h, u => by
    obtain ⟨M, hM⟩ := bound_ex f l (fun y hy => h y (List.mem_cons_of_mem _ hy)) u
    obtain ⟨a, ha⟩ := h x List.mem_cons_self
    refine ⟨max a M, fun y hy m hm => ?_⟩
    rcases List.mem_cons.mp hy with rfl | hy
    · rw [u _ _ _ hm ha]; exact Nat.le_max_left _ _
    · exact Nat.le_trans (hM y hy m hm) (Nat.le_max_right _ _)
/-- the start has the greatest rank -/
theorem PlysOk.top {n : Nat} {rs : List Rel} {r0 : Rel} {ps : List Ply} (h : PlysOk n rs r0 ps) {z p : Ply} {mz m : Nat} (hz : z ∈ ps) (ez : posP z = (0, r0)) (rz : PRk rs z mz) (hp : p ∈ ps) (rp : PRk rs p m) : p = z ∨ m < mz := by
  obtain ⟨M, hM⟩ := bound_ex (PRk rs) ps (fun _ hx => h.rk hx) (fun _ _ _ a b => rk_some a b)
  have key : ∀ d m p, p ∈ ps → PRk rs p m → M - m = d → p = z ∨ m < mz := by
    intro d
    induction d using Nat.strongRecOn with
    | _ d ih =>
      intro m p hp rp e
      rcases h.from_ (posP p) (List.mem_map.mpr ⟨p, hp, rfl⟩) with e0 | ⟨p', hp', hg, e2⟩
      · exact .inl (h.pos_inj hp hz (e0.trans ez.symm))
      · obtain ⟨m', rp'⟩ := h.rk hp'
        have lt := h.less hp' hg (Prod.ext rfl e2) rp' rp
        have := hM p' hp' m' rp'
        rcases ih (M - m') (by omega) m' p' hp' rp' rfl with rfl | z'
        · right; rw [rk_some rz rp']; exact lt
        · right; omega
  exact key _ m p hp rp rfl
/-- the rows of a certificate, in the order of the ranks -/
structure PlysS (n : Nat) (rs : List Rel) (r0 : Rel) (out : List Ply) : Prop where
  ok : ∀ p ∈ out, p.1 < n ∧ p.2.1 ∈ rs ∧ p.2.2 ∈ rs
  last : ∃ out' z, out = out' ++ [z] ∧ posP z = (0, r0)
  ord : ∀ (i : Nat) (p : Ply), out[i]? = some p → ∀ g ∈ p.2.1.getD p.1 [], ∃ (k : Nat) (q : Ply), k < i ∧ out[k]? = some q ∧ posP q = (g, p.2.2)
theorem PlysOk.sorted {n : Nat} {rs : List Rel} {r0 : Rel} {ps out : List Ply} (h : PlysOk n rs r0 ps) (hp : out.Perm ps) (hs : out.Pairwise fun p q => ∀ a b, PRk rs p a → PRk rs q b → a ≤ b) : PlysS n rs r0 out := by
  have mem : ∀ {p}, p ∈ out ↔ p ∈ ps := fun {p} => hp.mem_iff
  refine ⟨fun p hq => ?_, ?_, fun i p hi g hg => ?_⟩
  · obtain ⟨a, b, _, _, c, _⟩ := h.ok p (mem.mp hq)
    exact ⟨a, b, c⟩
  · obtain ⟨z, hz, ez⟩ := List.mem_map.mp h.start
    rcases List.eq_nil_or_concat out with rfl | ⟨out', y, rfl⟩
    · exact absurd (mem.mpr hz) (by simp)
    refine ⟨out', y, by rw [List.concat_eq_append], ?_⟩
    rw [List.concat_eq_append] at hs mem
    have hy : y ∈ ps := mem.mp (List.mem_append_right _ List.mem_cons_self)
    obtain ⟨mz, rz⟩ := h.rk hz
    obtain ⟨my, ry⟩ := h.rk hy
    rcases h.top hz ez rz hy ry with rfl | lt
    · exact ez
    · exfalso
      rcases List.mem_append.mp (mem.mpr hz) with c | c
      · have := (List.pairwise_append.mp hs).2.2 z c y List.mem_cons_self mz my rz ry
        omega
      · rw [List.mem_singleton.mp c] at rz
        have := rk_some rz ry
        omega
  · have hpm := mem.mp (List.mem_of_getElem? hi)
    obtain ⟨q, hq, eq⟩ := List.mem_map.mp (h.next p hpm g hg)
    obtain ⟨k, hk, ek⟩ := List.getElem_of_mem (mem.mpr hq)
    obtain ⟨m, rp⟩ := h.rk hpm
    obtain ⟨m', rq⟩ := h.rk hq
    have lt := h.less hpm hg eq rp rq
    obtain ⟨hi', ei⟩ := List.getElem?_eq_some_iff.mp hi
    refine ⟨k, q, ?_, by rw [List.getElem?_eq_getElem hk, ek], eq⟩
    by_cases c : k < i
    · exact c
    · exfalso
      by_cases c2 : k = i
      · subst c2
        rw [ei] at ek; subst ek
        have := rk_some rp rq
        omega
      · have := List.pairwise_iff_getElem.mp hs i k hi' hk (by omega) m m' (by rw [ei]; exact rp) (by rw [ek]; exact rq)
        omega
end LA

set_option maxHeartbeats 1000000
namespace LA
open PySem L2
def isRowD (n b : Nat) : PyData → Bool
  | .tuple [x, y, z] => isNB (n : Int) x && (isNB (b : Int) y && isNB (b : Int) z)
  | _ => false
theorem isRowD_three {n b : Nat} {x y z : PyData} : isRowD n b (.tuple [x, y, z]) = (isNB (n : Int) x && (isNB (b : Int) y && isNB (b : Int) z)) := rfl
theorem isRowD_no {n b : Nat} {d : PyData} (h : isTL 3 d = false) : isRowD n b d = false := by
  unfold isRowD
  split
  · simp [isTL] at h
  · rfl
def spCRow (K : PySem.W.Frag) : Sp := fun vs H Q _ => ∃ (p : Addr) (Z : Addr → Prop) (jv v : V) (d : PyData) (j : Jd) (b : Nat), vs = [jv, .int (b : Int), v] ∧ JAt K H jv j ∧ Dq K p Z H v d ∧ Q (.bl (isRowD j.length b d)) H
/-- a row of a certificate, by its numbers -/
abbrev Rw3 := Nat × Nat × Nat
def rwD (r : Rw3) : PyData := .tuple [.int (r.1 : Int), .int (r.2.1 : Int), .int (r.2.2 : Int)]
theorem rowD_of {n b : Nat} {d : PyData} (h : isRowD n b d = true) : ∃ r : Rw3, d = rwD r ∧ r.1 < n ∧ r.2.1 < b ∧ r.2.2 < b := by
  unfold isRowD at h
  split at h
  · simp only [Bool.and_eq_true] at h
    obtain ⟨h1, h2, h3⟩ := h
    obtain ⟨x, rfl, hx⟩ := isNB_nat h1
    obtain ⟨y, rfl, hy⟩ := isNB_nat h2
    obtain ⟨z, rfl, hz⟩ := isNB_nat h3
    exact ⟨(x, y, z), rfl, hx, hy, hz⟩
  · cases h
end LA

set_option maxHeartbeats 1000000
namespace LA
open PySem PySem.Spec PyProof.Rows L2
end LA

set_option maxHeartbeats 1000000
namespace LA
open PySem PySem.Spec PyProof.Rows L2
open Classical in
theorem usedT_mem {j : Jd} {t : List Row3} {r : Row3} : r ∈ usedT j t ↔ r ∈ t ∧ RchT j t (prOf r) := by
  unfold usedT
  rw [List.mem_filter, decide_eq_true_iff]
theorem RchT.back {j : Jd} {t : List Row3} {p : Nat × List Nat} (h : RchT j (usedT j t) p) : RchT j t p := by
  induction h with
  | st hr e => exact .st (usedT_mem.mp hr).1 e
  | go hr h1 hx ef ih => exact .go (usedT_mem.mp hr).1 ih hx ef
end LA

set_option maxHeartbeats 1000000
namespace LA
open PySem L2
/-- a row of numbers, as it lies -/
def RwAt3 (K : PySem.W.Frag) (H : Hp) (v : V) (r : Rw3) : Prop := ∃ t, v = .ref t ∧ SqT K H t [nV r.1, nV r.2.1, nV r.2.2]
theorem RwAt3.t {K : PySem.W.Frag} {H H' : Hp} {v : V} {r : Rw3} (h : RwAt3 K H v r) (s : SameT H H') : RwAt3 K H' v r := let ⟨t, e, a⟩ := h; ⟨t, e, s.seq a⟩
/-- all that can be chosen behind each row has an earlier row -/
def rowOk (rs : List Rel) (seen : List (Nat × Nat)) (r : Rw3) : Bool := ((rs.getD r.2.1 []).getD r.1 []).all fun g => decide ((g, r.2.2) ∈ seen)
def ordR (rs : List Rel) : List (Nat × Nat) → List Rw3 → Bool
  | _, [] => true
  | seen, r :: l => rowOk rs seen r && ordR rs (seen ++ [(r.1, r.2.1)]) l
def spROrd (K : PySem.W.Frag) (P : Program) (w : World) : Sp := fun vs H Q _ => ∃ (la a : Addr) (lvs : List V) (rs : List Rel) (us : List V) (ws : List Rw3) (n : Nat), vs = [.ref la, .ref a] ∧ H la = some (.lst lvs) ∧ Paired (RAt K H) lvs rs ∧ SqT K H a us ∧ Paired (RwAt3 K H) us ws ∧ (∀ r ∈ rs, IsR n r) ∧ (∀ r ∈ ws, r.1 < n ∧ r.2.1 < rs.length ∧ r.2.2 < rs.length) ∧ us.length ≤ 100000 ∧ n ≤ 8 ∧
  ∀ H', Same H H' → Q (.bl (ordR rs [] ws)) H'
theorem goals_le {n : Nat} {r : Rel} {G : List Nat} (h : IsR n r) (hG : G ∈ r) : G.length ≤ n := by
  have nd : G.Nodup := (h.asc G hG).imp fun a => by omega
  have := nodup_lenD G (List.range n) nd fun x hx => List.mem_range.mpr (h.lt G hG x hx)
  rw [List.length_range] at this
  exact this
/-- the dict of the rows that are earlier -/
structure ErD (K : PySem.W.Frag) (P : Program) (w : World) (H : Hp) (d : Addr) (seen : List (Nat × Nat)) (L : List DnE) (ep : Nat) : Prop where
  at_ : H d = some (DictN P w d L ep)
  keys : KeysN K H L
  mem : ∀ x y, (∃ l ∈ L, l.1 = wK [x, y]) ↔ (x, y) ∈ seen
  len : L.length ≤ seen.length
theorem ErD.same {K : PySem.W.Frag} {P : Program} {w : World} {H H' : Hp} {d : Addr} {seen : List (Nat × Nat)} {L : List DnE} {ep : Nat} (h : ErD K P w H d seen L ep) (s : Same H H') : ErD K P w H' d seen L ep := ⟨s _ _ h.at_, h.keys.t (Same.t s), h.mem, h.len⟩
theorem ErD.is {K : PySem.W.Frag} {P : Program} {w : World} {H : Hp} {d : Addr} {seen : List (Nat × Nat)} {L : List DnE} {ep : Nat} (h : ErD K P w H d seen L ep) (x y : Nat) : (atN L (wK [x, y])).isSome = decide ((x, y) ∈ seen) := by
  rw [Bool.eq_iff_iff, isSome_mem, decide_eq_true_iff]
  exact h.mem x y
theorem ErD.put {K : PySem.W.Frag} {P : Program} {w : World} {H : Hp} {d b : Addr} {seen : List (Nat × Nat)} {L : List DnE} {ep ep' : Nat} {s r : Nat} {v : V} (h : ErD K P w H d seen L ep) (hb : NkV K H (.ref b) (wK [s, r])) :
    ErD K P w (upd H d (DictN P w d (storeN L (wK [s, r]) b v) ep')) d (seen ++ [(s, r)]) (storeN L (wK [s, r]) b v) ep' := by
  have t : SameT H (upd H d (DictN P w d (storeN L (wK [s, r]) b v) ep')) := sameT_ext (φ := _) h.at_
  refine ⟨upd_same, (h.keys.store hb (wK_depth _)).t t, fun x y => ⟨?_, fun hm => ?_⟩, ?_⟩
  · rintro ⟨l, hl, e⟩
    rcases mem_store2 hl with z | ⟨z, _⟩
    · exact List.mem_append_left _ ((h.mem x y).mp ⟨l, z, e⟩)
    · have := wK_inj (e.symm.trans z)
      injection this with e1 e2
      injection e2 with e2 _
      rw [e1, e2]; exact List.mem_append_right _ List.mem_cons_self
  · rcases List.mem_append.mp hm with z | z
    · exact store_has (.inr ((h.mem x y).mpr z))
    · have := List.mem_singleton.mp z
      injection this with e1 e2
      rw [e1, e2]; exact store_has (.inl rfl)
  · have := storeN_len L (wK [s, r]) b v
    have := h.len
    rw [List.length_append, List.length_singleton]; omega
theorem ordR_split (rs : List Rel) : ∀ (ws : List Rw3) (seen : List (Nat × Nat)) (i : Nat) (r : Rw3), ws[i]? = some r → rowOk rs (seen ++ (ws.take i).map fun q => (q.1, q.2.1)) r = false → ordR rs seen ws = false
  | [], _, _, _, h, _ => by cases h
  | q :: ws, seen, 0, r, h, e => by
    simp at h
    subst h
    simp at e
    unfold ordR
    rw [e]; rfl
  | q :: ws, seen, i + 1, r, h, e => by
    have := ordR_split rs ws (seen ++ [(q.1, q.2.1)]) i r (by simpa using h) (by simpa using e)
    unfold ordR
    rw [this, Bool.and_false]
theorem ordR_all (rs : List Rel) : ∀ (ws : List Rw3) (seen : List (Nat × Nat)), (∀ i r, ws[i]? = some r → rowOk rs (seen ++ (ws.take i).map fun q => (q.1, q.2.1)) r = true) → ordR rs seen ws = true
  | [], _, _ => rfl
  | q :: ws, seen, h => by
    unfold ordR
    have h0 := h 0 q rfl
    simp at h0
    rw [h0, Bool.true_and]
    refine ordR_all rs ws _ fun i r hi => ?_
    have := h (i + 1) r (by simpa using hi)
    simpa using this
end LA

set_option maxHeartbeats 1000000
namespace LA
open PySem L2
def rw3N : PyData → Rw3
  | .tuple [x, y, z] => (natD x, natD y, natD z)
  | _ => (0, 0, 0)
theorem rw3_rwD (r : Rw3) : rw3N (rwD r) = r := by
  obtain ⟨x, y, z⟩ := r
  simp [rw3N, rwD, natD]
def isCrt (j : Jd) (nx : Nat) : PyData → Bool
  | .tuple [.tuple bs, .tuple ws] => !bs.isEmpty && (!ws.isEmpty && (bs.all (lpB j nx) && (ws.all (isRowD j.length bs.length) && (decide (((ws.map rw3N).getLast?.map (·.1)) = some 0) && ordR (bs.map (lpR j)) [] (ws.map rw3N)))))
  | _ => false
def spShowsCrt (K : PySem.W.Frag) : Sp := fun vs H Q _ => ∃ (p : Addr) (Z : Addr → Prop) (jv v : V) (d : PyData) (j : Jd) (nx ny : Nat), vs = [jv, v] ∧ JAt K H jv j ∧ IsJ j nx ny ∧ Dq K p Z H v d ∧ szD d ≤ 100000 ∧ ∀ H', Same H H' → Q (.bl (isCrt j nx d)) H'
theorem isCrt_no {j : Jd} {nx : Nat} {d : PyData} (h : isTL 2 d = false) : isCrt j nx d = false := by
  unfold isCrt
  split
  · simp [isTL] at h
  · rfl
theorem isCrt_tt {j : Jd} {nx : Nat} {a b : PyData} (h : isTup a = false ∨ isTup b = false) : isCrt j nx (.tuple [a, b]) = false := by
  unfold isCrt
  split
  · rename_i e
    injection e with e
    injection e with e1 e2
    injection e2 with e2 _
    subst e1; subst e2
    rcases h with h | h <;> cases h
  · rfl
theorem isCrt_two {j : Jd} {nx : Nat} {bs ws : List PyData} : isCrt j nx (.tuple [.tuple bs, .tuple ws]) = (!bs.isEmpty && (!ws.isEmpty && (bs.all (lpB j nx) && (ws.all (isRowD j.length bs.length) && (decide (((ws.map rw3N).getLast?.map (·.1)) = some 0) && ordR (bs.map (lpR j)) [] (ws.map rw3N)))))) := rfl
/-- the rows as they lie -/
theorem rows_at {K : PySem.W.Frag} {p : Addr} {Z : Addr → Prop} {H : Hp} {n b : Nat} : ∀ {us : List V} {ws : List PyData}, DqAll K p Z H us ws → ws.all (isRowD n b) = true → Paired (RwAt3 K H) us (ws.map rw3N) ∧ ∀ r ∈ ws.map rw3N, r.1 < n ∧ r.2.1 < b ∧ r.2.2 < b
  | _, _, .nil, _ => ⟨.nil, nofun⟩
  | _, _, .cons (vs := us) (d := d) (ds := ds) h t, e => by
    rw [List.all_cons, Bool.and_eq_true] at e
    obtain ⟨a, c⟩ := rows_at t e.2
    obtain ⟨r, rfl, h1, h2, h3⟩ := rowD_of e.1
    rw [List.map_cons, rw3_rwD]
    refine ⟨.cons ?_ a, fun q hq => ?_⟩
    · cases h with
      | tup hs hA =>
        obtain ⟨x, ys, rfl, g1, hA⟩ := dqAll_cons hA
        obtain ⟨y, ys, rfl, g2, hA⟩ := dqAll_cons hA
        obtain ⟨z, ys, rfl, g3, hA⟩ := dqAll_cons hA
        cases hA; cases g1; cases g2; cases g3
        exact ⟨_, rfl, hs⟩
    · rcases List.mem_cons.mp hq with rfl | hq
      · exact ⟨h1, h2, h3⟩
      · exact c q hq
theorem lpR_ok {j : Jd} {nx : Nat} {d : PyData} (h : lpB j nx d = true) : IsR j.length (lpR j d) := by
  unfold lpB at h
  split at h
  · exact relW_ok j _
  · cases h
/-- t == (), whatever t holds -/
def rEq0 (K : PySem.W.Frag) : R2 := fun x y H Q => ∃ (a b : Addr) (xs : List V), x = .ref a ∧ y = .ref b ∧ SqT K H a xs ∧ SqT K H b [] ∧ Q (.bl xs.isEmpty) H
theorem op_eq0 {X : Cx} (K : PySem.W.Frag) (hu : X.A.units + 64 < cLine) (h : X.K = K := by rfl) : OpR X (compareOp .Eq) (rEq0 K) := by
  subst h
  intro pins s σ H x y v u Q I rx ry hq
  obtain ⟨a, b, xs, rfl, rfl, ha, hb, q⟩ := hq
  obtain rfl : v = Value.ref a := rx
  obtain rfl : u = Value.ref b := ry
  obtain ⟨its, rv, ⟨o, g1, g2, n, g3⟩, _⟩ := I.tuple ha
  obtain ⟨jts, rw', ⟨o', k1, k2, n', k3⟩, _⟩ := I.tuple hb
  cases rw'
  refine SeqAt.RcAt.tuples (e := fun _ => true) ⟨o, g1, g2, n, g3⟩ ⟨o', k1, k2, n', k3⟩ (by omega) (fun j h1 h2 => absurd h2 (by simp)) _ _ _ _ ⟨.bl xs.isEmpty, H, I, ?_, q⟩
  show Value.bool _ = Value.bool _
  have hl := rv.length
  cases its with
  | nil => cases xs with
    | nil => rfl
    | cons => simp at hl
  | cons => cases xs with
    | nil => simp at hl
    | cons => simp
end LA

set_option maxHeartbeats 1000000
namespace LA
open PySem PySem.Spec PyProof.Rows L2 LamX
section
variable {j : Jd} {nx ny : Nat}
end
/-- t[:-1] of a tuple that has something -/
theorem cut_last {K : PySem.W.Frag} {H : Hp} {a : Addr} {xs : List V} {Q : VK} (h : SqT K H a xs) (hn : xs ≠ []) (q : ∀ p, H p = none → Q (.ref p) (upd H p (.tup xs.dropLast))) : rSlA K (.ref a) none (some (-1)) H Q := by
  have hl := List.length_pos_iff.mpr hn
  have e1 : HT.sIx xs.length xs.length (some (-1)) = xs.length - 1 := by
    unfold HT.sIx
    simp
    omega
  refine ⟨a, xs, rfl, h, fun z => ?_, fun _ p hp => ?_⟩
  · rw [e1] at z; omega
  · have e2 : cutV xs none (some (-1)) = xs.dropLast := by
      unfold cutV
      rw [e1, HT.sIx_none, List.drop_zero, Nat.sub_zero, List.dropLast_eq_take]
    rw [e2]; exact q p hp
end LA

set_option maxHeartbeats 1000000
namespace LA
open PySem L2
def turn56 (os xs ys : List Nat) : Jd := (List.range 3).map fun s => (List.range 3).map fun x => (List.range 2).map fun y => ((entJ endJ ((backN 3 os).getD s 0) ((backN 3 xs).getD x 0) ((backN 2 ys).getD y 0)).join).map fun t => os.getD t 0
def turnOk (os xs ys : List Nat) : Bool := isJb (turn56 os xs ys) 3 2 && decide ((turn56 os xs ys).length = 3) && (List.range 3).all fun s => (List.range 3).all fun x => (List.range 2).all fun y => decide (entJ (turn56 os xs ys) (os.getD s 0) (xs.getD x 0) (ys.getD y 0) = (entJ endJ s x y).map (Option.map fun t => os.getD t 0))
def os2 : List (List Nat) := [[0, 1, 2], [0, 2, 1]]
def xs6 : List (List Nat) := [[0, 1, 2], [0, 2, 1], [1, 0, 2], [1, 2, 0], [2, 0, 1], [2, 1, 0]]
def ys2 : List (List Nat) := [[0, 1], [1, 0]]
theorem turn_all : (os2.all fun os => xs6.all fun xs => ys2.all fun ys => turnOk os xs ys) = true := by decide +kernel
theorem seq3 {os : List Nat} (h : SeqN 3 os) : os ∈ xs6 := by
  have hl := h.len
  match os, hl with
  | [a, b, c], _ =>
    have m : ∀ x ∈ [a, b, c], x < 3 := fun x hx => List.mem_range.mp ((List.Perm.mem_iff h).mp hx)
    have key : ((List.range 3).all fun a => (List.range 3).all fun b => (List.range 3).all fun c => !decide (List.Pairwise (· ≠ ·) [a, b, c]) || xs6.contains [a, b, c]) = true := by decide
    have k := List.all_eq_true.mp (List.all_eq_true.mp (List.all_eq_true.mp key a (List.mem_range.mpr (m a (by simp)))) b (List.mem_range.mpr (m b (by simp)))) c (List.mem_range.mpr (m c (by simp)))
    rw [Bool.or_eq_true, Bool.not_eq_true', decide_eq_false_iff_not] at k
    rcases k with k | k
    · exact absurd h.nd k
    · exact List.contains_iff_mem.mp k
theorem seq2 {os : List Nat} (h : SeqN 2 os) : os ∈ ys2 := by
  have hl := h.len
  match os, hl with
  | [a, b], _ =>
    have m : ∀ x ∈ [a, b], x < 2 := fun x hx => List.mem_range.mp ((List.Perm.mem_iff h).mp hx)
    have key : ∀ a, a < 2 → ∀ b, b < 2 → List.Pairwise (· ≠ ·) [a, b] → [a, b] ∈ ys2 := by decide
    exact key a (m a (by simp)) b (m b (by simp)) h.nd
theorem seq30 {os : List Nat} (h : SeqN 3 os) (h0 : os.getD 0 0 = 0) : os ∈ os2 := by
  have : ∀ os ∈ xs6, os.getD 0 0 = 0 → os ∈ os2 := by decide
  exact this os (seq3 h) h0
theorem turn_is {j : Jd} {os xs ys : List Nat} (ho : SeqN 3 os) (h0 : os.getD 0 0 = 0) (hx : SeqN 3 xs) (hy : SeqN 2 ys) (h : TurnR endJ 3 2 os xs ys j) : os ∈ os2 ∧ xs ∈ xs6 ∧ ys ∈ ys2 ∧ j = turn56 os xs ys := by
  have ok := List.all_eq_true.mp (List.all_eq_true.mp (List.all_eq_true.mp turn_all os (seq30 ho h0)) xs (seq3 hx)) ys (seq2 hy)
  refine ⟨seq30 ho h0, seq3 hx, seq2 hy, ?_⟩
  unfold turnOk at ok
  rw [Bool.and_eq_true, Bool.and_eq_true] at ok
  refine TurnR.uniq (j := endJ) ho hx hy h ⟨isJb_is ok.1.1, of_decide_eq_true ok.1.2, fun s x y hs hx' hy' => ?_⟩
  exact of_decide_eq_true (List.all_eq_true.mp (List.all_eq_true.mp (List.all_eq_true.mp ok.2 s (List.mem_range.mpr hs)) x (List.mem_range.mpr hx')) y (List.mem_range.mpr hy'))
abbrev Bk3 := List Nat × List Nat × List Nat
abbrev Sg := Bool × Rel × Rel × Rel
def bkD (b : Bk3) : PyData := lpD b.1 b.2.1 b.2.2
def sig (j : Jd) (b : Bk3) : Sg := (decide (b.2.1 = []), relW j b.1, relW j (b.1 ++ b.2.1), relW j (b.1 ++ b.2.2))
def crtS (n : Nat) (ss : List Sg) (ws : List Rw3) : Bool := !ss.isEmpty && (!ws.isEmpty && (ss.all (fun q => !q.1 && decide (q.2.1 = q.2.2.1)) && (ws.all (fun r => decide (r.1 < n) && (decide (r.2.1 < ss.length) && decide (r.2.2 < ss.length))) && (decide ((ws.getLast?.map (·.1)) = some 0) && ordR (ss.map fun q => q.2.2.2) [] ws))))
/-- words of a block -/
def BkW (nx : Nat) (b : Bk3) : Prop := ∀ w ∈ [b.1, b.2.1, b.2.2], w.length ≤ 2000 ∧ ∀ x ∈ w, x < nx
theorem natD_nD (w : List Nat) : (w.map nD).map natD = w := by
  rw [List.map_map]
  conv => rhs; rw [← List.map_id w]
  exact List.map_congr_left fun x _ => by simp [nD, natD]
theorem parts_wD (w : List Nat) : (parts (wD w)).map natD = w := natD_nD w
theorem lwB_wD {nx : Nat} {w : List Nat} (h : w.length ≤ 2000 ∧ ∀ x ∈ w, x < nx) : lwB nx (wD w) = true := by
  unfold lwB
  rw [Bool.and_eq_true]
  refine ⟨?_, ?_⟩
  · show (w.map nD).all (isNB (nx : Int)) = true
    rw [List.all_map, List.all_eq_true]
    intro x hx
    exact nb_yes (h.2 x hx)
  · refine decide_eq_true ?_
    show (w.map nD).length ≤ 2000
    rw [List.length_map]; exact h.1
theorem lpB_bk {j : Jd} {nx : Nat} {b : Bk3} (h : BkW nx b) : lpB j nx (bkD b) = (!(sig j b).1 && decide ((sig j b).2.1 = (sig j b).2.2.1)) := by
  unfold bkD lpD
  rw [lpB_eq, lwB_wD (h _ (by simp)), lwB_wD (h _ (by simp)), lwB_wD (h _ (by simp)), parts_wD, parts_wD]
  rfl
theorem lpR_bk {j : Jd} {b : Bk3} : lpR j (bkD b) = (sig j b).2.2.2 := by
  show relW j ((parts (wD b.1)).map natD ++ (parts (wD b.2.2)).map natD) = _
  rw [parts_wD, parts_wD]; rfl
theorem rowD_rw {n b : Nat} {r : Rw3} : isRowD n b (rwD r) = (decide (r.1 < n) && (decide (r.2.1 < b) && decide (r.2.2 < b))) := by
  unfold rwD
  rw [isRowD_three]
  simp [isNB]
def crtD (bs : List Bk3) (ws : List Rw3) : PyData := .tuple [.tuple (bs.map bkD), .tuple (ws.map rwD)]
theorem isCrt_crt {j : Jd} {nx : Nat} {bs : List Bk3} {ws : List Rw3} (h : ∀ b ∈ bs, BkW nx b) : isCrt j nx (crtD bs ws) = crtS j.length (bs.map (sig j)) ws := by
  unfold crtD crtS
  rw [isCrt_two]
  have e1 : (bs.map bkD).all (lpB j nx) = (bs.map (sig j)).all (fun q => !q.1 && decide (q.2.1 = q.2.2.1)) := by
    rw [List.all_map, List.all_map, Bool.eq_iff_iff, List.all_eq_true, List.all_eq_true]
    refine forall_congr' fun b => forall_congr' fun hb => ?_
    show lpB j nx (bkD b) = true ↔ _
    rw [lpB_bk (h b hb)]; rfl
  have e2 : (ws.map rwD).all (isRowD j.length (bs.map bkD).length) = ws.all (fun r => decide (r.1 < j.length) && (decide (r.2.1 < (bs.map (sig j)).length) && decide (r.2.2 < (bs.map (sig j)).length))) := by
    rw [List.all_map, List.length_map, List.length_map]
    congr 1
    funext r
    exact rowD_rw
  have e3 : (ws.map rwD).map rw3N = ws := by
    rw [List.map_map]
    conv => rhs; rw [← List.map_id ws]
    exact List.map_congr_left fun r _ => rw3_rwD r
  have e4 : (bs.map bkD).map (lpR j) = (bs.map (sig j)).map fun q => q.2.2.2 := by
    rw [List.map_map, List.map_map]
    exact List.map_congr_left fun b _ => lpR_bk
  have e5 : (bs.map bkD).isEmpty = (bs.map (sig j)).isEmpty := by cases bs <;> rfl
  have e6 : (ws.map rwD).isEmpty = ws.isEmpty := by cases ws <;> rfl
  rw [e1, e2, e3, e4, e5, e6]
theorem rel_rep {j : Jd} {z : Nat} (hi : relW j [z, z] = relW j [z]) : ∀ k, relW j (List.replicate (k + 1) z) = relW j [z]
  | 0 => rfl
  | k + 1 => by
    rw [List.replicate_succ, ← List.singleton_append, ← comp_words, rel_rep hi k, comp_words]
    exact hi
theorem sig_rep {j : Jd} {z : Nat} (hi : relW j [z, z] = relW j [z]) (k m : Nat) (w : List Nat) : sig j (List.replicate (k + 1) z, List.replicate (m + 1) z, w) = sig j ([z], [z], w) := by
  unfold sig
  simp only
  rw [rel_rep hi k, ← comp_words j (List.replicate (k + 1) z), rel_rep hi k, rel_rep hi m, ← comp_words j (List.replicate (k + 1) z), rel_rep hi k, comp_words, comp_words]
  simp [List.replicate_succ]
def bks56 (k : Nat → Nat) (z x y : Nat) : List Bk3 := [(List.replicate (k 0) z, List.replicate (k 1) z, []), (List.replicate (k 2) z, List.replicate (k 3) z, [x]), (List.replicate (k 4) z, List.replicate (k 5) z, [y])]
def rws56 (a b : Nat) : List Rw3 := [(a, 2, 0), (b, 1, 2), (a, 0, 2), (b, 0, 1), (0, 0, 0)]
def goods56 (a b : Nat) : List (List Rw3) := [rws56 a b, [(b, 1, 2), (b, 0, 1), (a, 2, 0), (a, 0, 2), (0, 0, 0)], [(b, 1, 0), (a, 2, 0), (b, 1, 2), (a, 0, 2), (b, 0, 1), (a, 0, 2), (0, 0, 0)], rws56 a b ++ [(0, 0, 0)]]
def bads56 (B : List Bk3) (z x y a b : Nat) : List (List Bk3 × List Rw3) := [
  (B, [(a, 0, 2), (a, 2, 0), (b, 1, 2), (b, 0, 1), (0, 0, 0)]), (B, [(a, 2, 0), (b, 1, 2), (a, 0, 2), (b, 0, 1)]), (B, [(b, 1, 2), (a, 0, 2), (b, 0, 1), (0, 0, 0)]),
  (B, [(a, 2, 0), (b, 1, 2), (a, 0, 2), (0, 0, 0)]), (B, [(a, 2, 0), (b, 1, 2), (a, 0, 2), (b, 0, 1), (0, 0, 3)]), (B, [(a, 2, 0), (b, 1, 2), (a, 0, 2), (b, 0, 1), (0, 0, 1)]),
  (B, rws56 a b ++ [(a, 0, 2)]), (B.take 2 ++ [([z], [x], [y])], rws56 a b), (([z], [], []) :: B.drop 1, rws56 a b), (([z], [z], [x]) :: B.drop 1, rws56 a b),
  (B.take 1 ++ (B.drop 2 ++ (B.take 2).drop 1), rws56 a b), (B.take 2, rws56 a b)]
/-- the same, with the relations -/
def chk56 (os xs ys : List Nat) : Bool :=
  let j := turn56 os xs ys
  let z := xs.getD 0 0
  let x := xs.getD 1 0
  let y := xs.getD 2 0
  let a := os.getD 1 0
  let b := os.getD 2 0
  let B := bks56 (fun _ => 1) z x y
  decide (relW j [z, z] = relW j [z]) && (goods56 a b).all (fun ws => crtS j.length (B.map (sig j)) ws) && (bads56 B z x y a b).all (fun q => !crtS j.length (q.1.map (sig j)) q.2)
theorem chk56_all : (os2.all fun os => xs6.all fun xs => ys2.all fun ys => chk56 os xs ys) = true := by decide +kernel
theorem bk56_sig {j : Jd} {z x y : Nat} {k : Nat → Nat} (hi : relW j [z, z] = relW j [z]) (hk : ∀ i, 1 ≤ k i) : (bks56 k z x y).map (sig j) = (bks56 (fun _ => 1) z x y).map (sig j) := by
  have g : ∀ i, k i = (k i - 1) + 1 := fun i => by have := hk i; omega
  unfold bks56
  simp only [List.map_cons, List.map_nil]
  rw [g 0, g 1, g 2, g 3, g 4, g 5, sig_rep hi, sig_rep hi, sig_rep hi, show (1 : Nat) = 0 + 1 from rfl, sig_rep hi, sig_rep hi, sig_rep hi]
structure W56 (j : Jd) (z x y a b : Nat) (k : Nat → Nat) : Prop where
  good : ∀ ws ∈ goods56 a b, isCrt j 3 (crtD (bks56 k z x y) ws) = true
  bad : ∀ q ∈ bads56 (bks56 k z x y) z x y a b, isCrt j 3 (crtD q.1 q.2) = false
theorem bkw_rep {z : Nat} {k m : Nat} {w : List Nat} (hz : z < 3) (h1 : k ≤ 2000) (h2 : m ≤ 2000) (hw : w.length ≤ 2000 ∧ ∀ x ∈ w, x < 3) : BkW 3 (List.replicate k z, List.replicate m z, w) := by
  intro u hu
  simp only [List.mem_cons, List.not_mem_nil, or_false] at hu
  rcases hu with rfl | rfl | rfl
  · exact ⟨by rw [List.length_replicate]; exact h1, fun x hx => by rw [List.eq_of_mem_replicate hx]; exact hz⟩
  · exact ⟨by rw [List.length_replicate]; exact h2, fun x hx => by rw [List.eq_of_mem_replicate hx]; exact hz⟩
  · exact hw
theorem w56_of {j : Jd} {os xs ys : List Nat} {k : Nat → Nat} (ho : SeqN 3 os) (h0 : os.getD 0 0 = 0) (hx : SeqN 3 xs) (hy : SeqN 2 ys) (h : TurnR endJ 3 2 os xs ys j) (hk : ∀ i, 1 ≤ k i ∧ k i ≤ 5) : W56 j (xs.getD 0 0) (xs.getD 1 0) (xs.getD 2 0) (os.getD 1 0) (os.getD 2 0) k := by
  obtain ⟨m1, m2, m3, rfl⟩ := turn_is ho h0 hx hy h
  have ok := List.all_eq_true.mp (List.all_eq_true.mp (List.all_eq_true.mp chk56_all os m1) xs m2) ys m3
  unfold chk56 at ok
  simp only [Bool.and_eq_true] at ok
  obtain ⟨⟨o1, o2⟩, o3⟩ := ok
  have hi := of_decide_eq_true o1
  have z3 : xs.getD 0 0 < 3 := hx.lt (by decide)
  have x3 : xs.getD 1 0 < 3 := hx.lt (by decide)
  have y3 : xs.getD 2 0 < 3 := hx.lt (by decide)
  generalize turn56 os xs ys = j at *
  generalize xs.getD 0 0 = z at *
  generalize xs.getD 1 0 = x at *
  generalize xs.getD 2 0 = y at *
  have one : ∀ {q : Nat}, q < 3 → [q].length ≤ 2000 ∧ ∀ x ∈ [q], x < 3 := fun hq => ⟨by simp, fun x hx => by rw [List.mem_singleton.mp hx]; exact hq⟩
  have nil : ([] : List Nat).length ≤ 2000 ∧ ∀ x ∈ ([] : List Nat), x < 3 := ⟨by simp, nofun⟩
  have hB : ∀ b ∈ bks56 k z x y, BkW 3 b := fun b hb => by
    unfold bks56 at hb
    simp only [List.mem_cons, List.not_mem_nil, or_false] at hb
    rcases hb with rfl | rfl | rfl
    · exact bkw_rep z3 (by have := hk 0; omega) (by have := hk 1; omega) nil
    · exact bkw_rep z3 (by have := hk 2; omega) (by have := hk 3; omega) (one x3)
    · exact bkw_rep z3 (by have := hk 4; omega) (by have := hk 5; omega) (one y3)
  have es := bk56_sig (x := x) (y := y) (k := k) hi fun i => (hk i).1
  refine ⟨fun ws hw => ?_, fun q hq => ?_⟩
  · rw [isCrt_crt hB, es]
    exact List.all_eq_true.mp o2 ws hw
  · have hW : ∀ c ∈ q.1, BkW 3 c := by
      have e3 : ∀ c ∈ [([z], [x], [y]), ([z], [], []), ([z], [z], [x])], BkW 3 c := fun c hc => by
        simp only [List.mem_cons, List.not_mem_nil, or_false] at hc
        intro u hu
        rcases hc with rfl | rfl | rfl <;> simp only [List.mem_cons, List.not_mem_nil, or_false] at hu <;> rcases hu with rfl | rfl | rfl <;> first | exact one z3 | exact one x3 | exact one y3 | exact nil
      unfold bads56 at hq
      simp only [List.mem_cons, List.not_mem_nil, or_false] at hq
      intro c hc
      rcases hq with rfl | rfl | rfl | rfl | rfl | rfl | rfl | rfl | rfl | rfl | rfl | rfl
      iterate 7 exact hB c hc
      · rcases List.mem_append.mp hc with hc | hc
        · exact hB c (List.mem_of_mem_take hc)
        · exact e3 c (by rw [List.mem_singleton.mp hc]; simp)
      · rcases List.mem_cons.mp hc with rfl | hc
        · exact e3 _ (by simp)
        · exact hB c (List.mem_of_mem_drop hc)
      · rcases List.mem_cons.mp hc with rfl | hc
        · exact e3 _ (by simp)
        · exact hB c (List.mem_of_mem_drop hc)
      · rcases List.mem_append.mp hc with hc | hc
        · exact hB c (List.mem_of_mem_take hc)
        · rcases List.mem_append.mp hc with hc | hc
          · exact hB c (List.mem_of_mem_drop hc)
          · exact hB c (List.mem_of_mem_take (List.mem_of_mem_drop hc))
      · exact hB c (List.mem_of_mem_take hc)
    rw [isCrt_crt hW]
    -- the relations are those of the short blocks
    have hm : ∃ q' ∈ bads56 (bks56 (fun _ => 1) z x y) z x y (os.getD 1 0) (os.getD 2 0), q'.1.map (sig j) = q.1.map (sig j) ∧ q'.2 = q.2 := by
      obtain ⟨i, hi', e⟩ := List.mem_iff_getElem.mp hq
      have l1 : (bads56 (bks56 (fun _ => 1) z x y) z x y (os.getD 1 0) (os.getD 2 0)).length = 12 := rfl
      have l2 : (bads56 (bks56 k z x y) z x y (os.getD 1 0) (os.getD 2 0)).length = 12 := rfl
      have es0 := congrArg (fun l => l[0]?) es
      have es1 := congrArg (fun l => l[1]?) es
      have es2 := congrArg (fun l => l[2]?) es
      have e0 : sig j (List.replicate (k 0) z, List.replicate (k 1) z, []) = sig j ([z], [z], []) := Option.some.inj es0
      have e1 : sig j (List.replicate (k 2) z, List.replicate (k 3) z, [x]) = sig j ([z], [z], [x]) := Option.some.inj es1
      have e2 : sig j (List.replicate (k 4) z, List.replicate (k 5) z, [y]) = sig j ([z], [z], [y]) := Option.some.inj es2
      refine ⟨_, List.getElem_mem (by rw [l1]; rw [l2] at hi'; exact hi'), ?_⟩
      subst e
      rw [l2] at hi'
      match i, hi' with
      | 0, _ => exact ⟨es.symm, rfl⟩
      | 1, _ => exact ⟨es.symm, rfl⟩
      | 2, _ => exact ⟨es.symm, rfl⟩
      | 3, _ => exact ⟨es.symm, rfl⟩
      | 4, _ => exact ⟨es.symm, rfl⟩
      | 5, _ => exact ⟨es.symm, rfl⟩
      | 6, _ => exact ⟨es.symm, rfl⟩
      | 7, _ => exact ⟨by show [sig j ([z], [z], []), sig j ([z], [z], [x]), sig j ([z], [x], [y])] = [sig j _, sig j _, sig j _]; rw [e0, e1], rfl⟩
      | 8, _ => exact ⟨by show [sig j ([z], [], []), sig j ([z], [z], [x]), sig j ([z], [z], [y])] = [sig j _, sig j _, sig j _]; rw [e1, e2], rfl⟩
      | 9, _ => exact ⟨by show [sig j ([z], [z], [x]), sig j ([z], [z], [x]), sig j ([z], [z], [y])] = [sig j _, sig j _, sig j _]; rw [e1, e2], rfl⟩
      | 10, _ => exact ⟨by show [sig j ([z], [z], []), sig j ([z], [z], [y]), sig j ([z], [z], [x])] = [sig j _, sig j _, sig j _]; rw [e0, e1, e2], rfl⟩
      | 11, _ => exact ⟨by show [sig j ([z], [z], []), sig j ([z], [z], [x])] = [sig j _, sig j _]; rw [e0, e1], rfl⟩
    obtain ⟨q', hq', h1, h2⟩ := hm
    rw [← h1, ← h2]
    have := List.all_eq_true.mp o3 q' hq'
    simpa using this
def one56 : Jd := [[[none], [some 0]]]
theorem one56_is : IsJ one56 2 1 := isJb_is (by decide)
def bs56 : List Bk3 := [([0], [0], []), ([1], [1], [])]
theorem bs56_w : ∀ b ∈ bs56, BkW 2 b := fun b hb u hu => by
  unfold bs56 at hb
  simp only [List.mem_cons, List.not_mem_nil, or_false] at hb
  rcases hb with rfl | rfl <;> simp only [List.mem_cons, List.not_mem_nil, or_false] at hu <;> rcases hu with rfl | rfl | rfl <;> exact ⟨by simp, by decide⟩
theorem ord_many (rs : List Rel) (r : Rw3) (l : List Rw3) (h : (rs.getD r.2.1 []).getD r.1 [] = []) : ∀ (m : Nat) (seen : List (Nat × Nat)), ordR rs seen (List.replicate m r ++ l) = ordR rs (seen ++ List.replicate m (r.1, r.2.1)) l
  | 0, seen => by simp
  | m + 1, seen => by
    rw [List.replicate_succ, List.cons_append]
    show (rowOk rs seen r && ordR rs (seen ++ [(r.1, r.2.1)]) (List.replicate m r ++ l)) = _
    rw [ord_many rs r l h m, List.append_assoc, List.singleton_append, ← List.replicate_succ]
    have : rowOk rs seen r = true := by unfold rowOk; rw [h]; rfl
    rw [this, Bool.true_and]
theorem sig56 : bs56.map (sig one56) = [(false, [[]], [[]], [[]]), (false, [[0]], [[0]], [[0]])] := by decide +kernel
theorem all_rep {α : Type} {f : α → Bool} {a : α} (h : f a = true) (m : Nat) : (List.replicate m a).all f = true :=
  List.all_eq_true.mpr fun x hx => by rw [List.eq_of_mem_replicate hx]; exact h
theorem many_yes {m : Nat} (hm : 1 ≤ m) : isCrt one56 2 (crtD bs56 (List.replicate m (0, 0, 0) ++ [(0, 1, 0)])) = true := by
  rw [isCrt_crt bs56_w, sig56]
  unfold crtS
  rw [List.all_append, all_rep (by decide), List.getLast?_append]
  have := ord_many ([((false, [[]], [[]], [[]]) : Sg), (false, [[0]], [[0]], [[0]])].map fun q => q.2.2.2) (0, 0, 0) [(0, 1, 0)] rfl m []
  rw [this, List.nil_append]
  obtain ⟨m, rfl⟩ : ∃ k, m = k + 1 := ⟨m - 1, by omega⟩
  simp [ordR, rowOk, one56]
theorem many_yes0 {m : Nat} (hm : 1 ≤ m) : isCrt one56 2 (crtD bs56 (List.replicate m (0, 0, 0))) = true := by
  rw [isCrt_crt bs56_w, sig56]
  unfold crtS
  rw [all_rep (by decide)]
  have := ord_many ([((false, [[]], [[]], [[]]) : Sg), (false, [[0]], [[0]], [[0]])].map fun q => q.2.2.2) (0, 0, 0) [] rfl m []
  rw [List.append_nil, List.nil_append] at this
  rw [this]
  obtain ⟨m, rfl⟩ : ∃ k, m = k + 1 := ⟨m - 1, by omega⟩
  have e : (List.replicate (m + 1) ((0, 0, 0) : Rw3)).getLast? = some (0, 0, 0) := by rw [List.replicate_succ', List.getLast?_append]; rfl
  rw [e]
  simp [ordR, List.replicate_succ]
theorem many_no {m : Nat} (hm : 1 ≤ m) : isCrt one56 2 (crtD bs56 (List.replicate m (0, 0, 0) ++ [(0, 1, 1)] ++ List.replicate m (0, 0, 0))) = false := by
  rw [isCrt_crt bs56_w, sig56]
  unfold crtS
  have := ord_many ([((false, [[]], [[]], [[]]) : Sg), (false, [[0]], [[0]], [[0]])].map fun q => q.2.2.2) (0, 0, 0) ([(0, 1, 1)] ++ List.replicate m (0, 0, 0)) rfl m []
  rw [List.nil_append] at this
  rw [List.append_assoc, this]
  have e : ∀ l, ordR ([((false, [[]], [[]], [[]]) : Sg), (false, [[0]], [[0]], [[0]])].map fun q => q.2.2.2) (List.replicate m (0, 0)) ([((0, 1, 1) : Rw3)] ++ l) = false := fun l => by
    simp [ordR, rowOk]
  rw [e]
  simp
section
variable {K : PySem.W.Frag} {p : Addr} {Z : Addr → Prop} {H : Hp} {Q : VK}
theorem dq_cat {x y : V} {ds es : List PyData} (hx : Dq K p Z H x (.tuple ds)) (hy : Dq K p Z H y (.tuple es)) (hl : ds.length + es.length ≤ 1000000) (q : ∀ (H' : Hp) (z : V), Same H H' → Dq K p Z H' z (.tuple (ds ++ es)) → Q z H') : rCatA K x y H Q := by
  cases hx with
  | tup ha hA =>
    cases hy with
    | tup hb hB =>
      have l1 := hA.len
      have l2 := hB.len
      refine catOne ha hb (Nat.le_trans (m := 1000000) (by omega) (by decide)) fun H' r S h => q H' _ S (.tup h ?_)
      exact (hA.same S).app (hB.same S)
theorem dqA_take {H : Hp} : ∀ {xs : List V} {ds : List PyData} (k : Nat), DqAll K p Z H xs ds → DqAll K p Z H (xs.take k) (ds.take k)
  | _, _, 0, _ => by rw [List.take_zero, List.take_zero]; exact .nil
  | _, _, k + 1, .nil => by rw [List.take_nil, List.take_nil]; exact .nil
  | _, _, k + 1, .cons h t => by rw [List.take_succ_cons, List.take_succ_cons]; exact .cons h (dqA_take k t)
theorem dqA_drop {H : Hp} : ∀ {xs : List V} {ds : List PyData} (k : Nat), DqAll K p Z H xs ds → DqAll K p Z H (xs.drop k) (ds.drop k)
  | _, _, 0, h => h
  | _, _, k + 1, .nil => by rw [List.drop_nil, List.drop_nil]; exact .nil
  | _, _, k + 1, .cons h t => by rw [List.drop_succ_cons, List.drop_succ_cons]; exact dqA_drop k t
theorem dq_to {x : V} {ds : List PyData} {k : Nat} {j : Int} (hx : Dq K p Z H x (.tuple ds)) (q : ∀ (H' : Hp) (z : V), Same H H' → Dq K p Z H' z (.tuple (ds.take k)) → Q z H') (hj : j = (k : Int) := by rfl) : rSlA K x none (some j) H Q := by
  subst hj
  cases hx with
  | tup ha hA => exact slOne ha fun H' r S h => q H' _ S (.tup h (by rw [cut_toA]; exact dqA_take k (hA.same S)))
theorem dq_from {x : V} {ds : List PyData} {k : Nat} {j : Int} (hx : Dq K p Z H x (.tuple ds)) (q : ∀ (H' : Hp) (z : V), Same H H' → Dq K p Z H' z (.tuple (ds.drop k)) → Q z H') (hj : j = (k : Int) := by rfl) : rSlA K x (some j) none H Q := by
  subst hj
  cases hx with
  | tup ha hA => exact slOne ha fun H' r S h => q H' _ S (.tup h (by rw [cut_fromA]; exact dqA_drop k (hA.same S)))
theorem dq_mid {x : V} {ds : List PyData} {a b : Nat} {i j : Int} (hb : b ≤ ds.length) (hx : Dq K p Z H x (.tuple ds)) (q : ∀ (H' : Hp) (z : V), Same H H' → Dq K p Z H' z (.tuple ((ds.take b).drop a)) → Q z H') (hi : i = (a : Int) := by rfl) (hj : j = (b : Int) := by rfl) : rSlA K x (some i) (some j) H Q := by
  subst hi hj
  cases hx with
  | tup ha hA => exact slOne ha fun H' r S h => q H' _ S (.tup h (by rw [cut_mid _ _ _ (by rw [hA.len]; exact hb)]; exact dqA_drop a (dqA_take b (hA.same S))))
theorem dq_last {x : V} {ds : List PyData} (hn : ds ≠ []) (hx : Dq K p Z H x (.tuple ds)) (q : ∀ (H' : Hp) (z : V), Same H H' → Dq K p Z H' z (.tuple ds.dropLast) → Q z H') : rSlA K x none (some (-1)) H Q := by
  cases hx with
  | tup ha hA =>
    have l := hA.len
    refine cut_last ha (fun z => hn (List.length_eq_zero_iff.mp (by rw [← l, z]; rfl))) fun r hr => q _ _ (sm hr) (.tup (SqT.of upd_same) ?_)
    rw [List.dropLast_eq_take, List.dropLast_eq_take, l]
    exact dqA_take _ (hA.same (sm hr))
theorem dq_new {xs : List V} {ds : List PyData} {q : Addr} (hq : H q = none) (hA : DqAll K p Z H xs ds) : Dq K p Z (upd H q (.tup xs)) (.ref q) (.tuple ds) := .tup (SqT.of upd_same) (hA.same (sm hq))
end
def mkP (bs ws : List PyData) : PyData := .tuple [.tuple bs, .tuple ws]
def rw3D (x y z : Nat) : PyData := rwD (x, y, z)
/-- the bad papers, of any blocks and rows -/
def badD (b0 b1 b2 r0 r1 r2 r3 r4 : PyData) (z x y f s : Nat) : List PyData := [
  mkP [b0, b1, b2] [r2, r0, r1, r3, r4], mkP [b0, b1, b2] [r0, r1, r2, r3], mkP [b0, b1, b2] [r1, r2, r3, r4],
  mkP [b0, b1, b2] [r0, r1, r2, r4], mkP [b0, b1, b2] [r0, r1, r2, r3, rw3D f 0 3], mkP [b0, b1, b2] [r0, r1, r2, r3, rw3D f 0 1],
  mkP [b0, b1, b2] [r0, r1, r2, r3, r4, rw3D s 0 2], mkP [b0, b1, lpD [z] [x] [y]] [r0, r1, r2, r3, r4], mkP [lpD [z] [] [], b1, b2] [r0, r1, r2, r3, r4], mkP [lpD [z] [z] [x], b1, b2] [r0, r1, r2, r3, r4],
  mkP [b0, b2, b1] [r0, r1, r2, r3, r4], mkP [b0, b1] [r0, r1, r2, r3, r4], mkP [r0, r1, r2, r3, r4] [b0, b1, b2], .tuple [.list [b0, b1, b2], .tuple [r0, r1, r2, r3, r4]], .tuple [.tuple [b0, b1, b2], .list [r0, r1, r2, r3, r4]]]
theorem bad56 {j : Jd} {z x y a b : Nat} {k : Nat → Nat} (h : W56 j z x y a b k) {d : PyData} (hd : d ∈ badD (bkD (List.replicate (k 0) z, List.replicate (k 1) z, [])) (bkD (List.replicate (k 2) z, List.replicate (k 3) z, [x])) (bkD (List.replicate (k 4) z, List.replicate (k 5) z, [y])) (rw3D a 2 0) (rw3D b 1 2) (rw3D a 0 2) (rw3D b 0 1) (rw3D 0 0 0) z x y 0 a) : isCrt j 3 d = false := by
  have e : badD (bkD (List.replicate (k 0) z, List.replicate (k 1) z, [])) (bkD (List.replicate (k 2) z, List.replicate (k 3) z, [x])) (bkD (List.replicate (k 4) z, List.replicate (k 5) z, [y])) (rw3D a 2 0) (rw3D b 1 2) (rw3D a 0 2) (rw3D b 0 1) (rw3D 0 0 0) z x y 0 a =
      (bads56 (bks56 k z x y) z x y a b).map (fun q => crtD q.1 q.2) ++ [mkP ((rws56 a b).map rwD) ((bks56 k z x y).map bkD), .tuple [.list ((bks56 k z x y).map bkD), .tuple ((rws56 a b).map rwD)], .tuple [.tuple ((bks56 k z x y).map bkD), .list ((rws56 a b).map rwD)]] := rfl
  rw [e] at hd
  rcases List.mem_append.mp hd with hd | hd
  · obtain ⟨q, hq, rfl⟩ := List.mem_map.mp hd
    exact h.bad q hq
  · simp only [List.mem_cons, List.not_mem_nil, or_false] at hd
    rcases hd with rfl | rfl | rfl
    · rfl
    · exact isCrt_tt (.inl rfl)
    · exact isCrt_tt (.inr rfl)
/-- what stays of a paper: tuples -/
def GoodAt (K : PySem.W.Frag) (H : Hp) (v : V) (ws : List Rw3) : Prop := Dq K 0 (fun _ => False) H v (.tuple (ws.map rwD))
structure Pap56 (K : PySem.W.Frag) (H : Hp) (v : V) (z x y a b : Nat) (k : Nat → Nat) : Prop where
  ex : ∃ (t gl : Addr) (bv : V) (gvs : List V), v = .ref t ∧ SqT K H t [bv, .ref gl] ∧ Dq K 0 (fun _ => False) H bv (.tuple ((bks56 k z x y).map bkD)) ∧ H gl = some (.lst gvs) ∧ Paired (GoodAt K H) gvs (goods56 a b)
def spPapers56 (K : PySem.W.Frag) : Sp := fun vs H Q _ => ∃ (p ol xl : Addr) (n a b z x y : Nat), vs = [.ref p, .ref ol, .ref xl] ∧ PotAt H p n ∧ n < 900000 ∧ H ol = some (.lst [nV 0, nV a, nV b]) ∧ H xl = some (.lst [nV z, nV x, nV y]) ∧ ol ≠ p ∧ xl ≠ p ∧
  ∀ (H' : Hp) (v : V) (k : Nat → Nat), SameX p H H' → PotAt H' p (n + 6) → (∀ i, 1 ≤ k i ∧ k i ≤ 5) → Pap56 K H' v z x y a b k → Q v H'
def spBad56 (K : PySem.W.Frag) : Sp := fun vs H Q _ => ∃ (bv rv : V) (ol xl : Addr) (b0 b1 b2 r0 r1 r2 r3 r4 : PyData) (f s t z x y : Nat), vs = [bv, rv, .ref ol, .ref xl] ∧ Dq K 0 (fun _ => False) H bv (.tuple [b0, b1, b2]) ∧ Dq K 0 (fun _ => False) H rv (.tuple [r0, r1, r2, r3, r4]) ∧ noLAll [b0, b1, b2] = true ∧ noLAll [r0, r1, r2, r3, r4] = true ∧ H ol = some (.lst [nV f, nV s, nV t]) ∧ H xl = some (.lst [nV z, nV x, nV y]) ∧
  ∀ (H' : Hp) (q gl : Addr) (gvs : List V), Same H H' → H' gl = some (.lst gvs) → Paired (fun v d => Dq K q (fun _ => False) H' v d) gvs (badD b0 b1 b2 r0 r1 r2 r3 r4 z x y f s) → Q (.ref gl) H'
def spMany56 (K : PySem.W.Frag) : Sp := fun vs H Q _ => ∃ (p : Addr) (n : Nat), vs = [.ref p] ∧ PotAt H p n ∧ n < 900000 ∧ ∀ H', SameX p H H' → PotAt H' p (n + 1) → Q (.bl true) H'
section
variable {K : PySem.W.Frag} {p : Addr} {Z : Addr → Prop} {H : Hp} {Q : VK}
theorem rep_use {v : V} {z k : Nat} (h : WordAt K H v [z]) (h1 : 1 ≤ k) (h2 : k ≤ 1000) (q : ∀ (H' : Hp) (u : V), Same H H' → WordAt K H' u (List.replicate k z) → Q u H') : rRepA K v (.int (k : Int)) H Q := by
  obtain ⟨a, rfl, ha⟩ := h
  refine ⟨a, (k : Int), _, rfl, rfl, ha, by simp, by omega, by omega, by simp, fun H' r S hr => q H' _ S ⟨r, rfl, ?_⟩⟩
  have e : (List.replicate ((k : Nat) : Int).toNat ([z].map nV)).flatten = (List.replicate k z).map nV := by
    rw [Int.toNat_natCast, List.map_replicate]
    simp
  rw [← e]; exact hr
theorem bk_new {x y z : V} {a b c : List Nat} {q : Addr} (hq : H q = none) (ha : WordAt K H x a) (hb : WordAt K H y b) (hc : WordAt K H z c) : Dq K p Z (upd H q (.tup [x, y, z])) (.ref q) (bkD (a, b, c)) :=
  dq_new hq (.cons ha.dq (.cons hb.dq (.cons hc.dq .nil)))
theorem rw_new {x y z : Nat} {q : Addr} (hq : H q = none) : Dq K p Z (upd H q (.tup [nV x, nV y, nV z])) (.ref q) (rw3D x y z) :=
  dq_new hq (.cons (.int _) (.cons (.int _) (.cons (.int _) .nil)))
/-- an item of such a tuple -/
theorem dq_item {x : V} {ds : List PyData} {i : Nat} {j : Int} {d : PyData} (hx : Dq K p Z H x (.tuple ds)) (hd : ds[i]? = some d) (q : ∀ v, Dq K p Z H v d → Q v H) (hj : j = (i : Int) := by rfl) : rIxT K x (.int j) H Q := by
  subst hj
  cases hx with
  | tup ha hA =>
    have l := hA.len
    have hv := List.getElem?_eq_getElem (show i < _ from l ▸ (List.getElem?_eq_some_iff.mp hd).1)
    obtain ⟨d', e1, e2⟩ := hA.get hv
    rw [hd] at e1; cases e1
    exact ⟨_, _, _, _, rfl, rfl, ha, atI_nat (j := i) hv, q _ e2⟩
end
abbrev NZ : Addr → Prop := fun _ => False
/-- what stays while the bad papers are written -/
structure BadA (K : PySem.W.Frag) (H : Hp) (bv rv : V) (ol xl : Addr) (wz wx : V) (fl : Addr) (vs : List V) (bd rd : List PyData) (os xs : List V) (z x : Nat) (ds : List PyData) : Prop where
  bv : Dq K fl NZ H bv (.tuple bd)
  rv : Dq K fl NZ H rv (.tuple rd)
  ho : H ol = some (.lst os)
  hx : H xl = some (.lst xs)
  wz : WordAt K H wz [z]
  wx : WordAt K H wx [x]
  hl : H fl = some (.lst vs)
  pr : Paired (fun v d => Dq K fl NZ H v d) vs ds
  no : ol ≠ fl
  nx : xl ≠ fl
section
variable {K : PySem.W.Frag} {H H' : Hp} {bv rv : V} {ol xl : Addr} {wz wx : V} {fl : Addr} {vs : List V} {bd rd : List PyData} {os xs : List V} {z x : Nat} {ds : List PyData}
theorem BadA.same (h : BadA K H bv rv ol xl wz wx fl vs bd rd os xs z x ds) (s : Same H H') : BadA K H' bv rv ol xl wz wx fl vs bd rd os xs z x ds :=
  ⟨h.bv.same s, h.rv.same s, s _ _ h.ho, s _ _ h.hx, h.wz.t (Same.t s), h.wx.t (Same.t s), s _ _ h.hl, paired_map h.pr fun _ _ q => q.same s, h.no, h.nx⟩
theorem BadA.app {v : V} {d : PyData} (h : BadA K H bv rv ol xl wz wx fl vs bd rd os xs z x ds) (hd : Dq K fl NZ H v d) : BadA K (upd H fl (.lst (vs ++ [v]))) bv rv ol xl wz wx fl (vs ++ [v]) bd rd os xs z x (ds ++ [d]) := by
  have X : SameX fl H (upd H fl (.lst (vs ++ [v]))) := fun b o e n => by rw [upd_ne n]; exact e
  have t : SameT H (upd H fl (.lst (vs ++ [v]))) := X.t h.hl
  exact ⟨Dq.x X t _ _ h.bv, Dq.x X t _ _ h.rv, X _ _ h.ho h.no, X _ _ h.hx h.nx, h.wz.t t, h.wx.t t, upd_same, paired_snoc (paired_map h.pr fun _ _ q => Dq.x X t _ _ q) (Dq.x X t _ _ hd), h.no, h.nx⟩
theorem mk_pap {a b : V} {as bs : List PyData} {q : Addr} {Z : Addr → Prop} {p : Addr} (hq : H q = none) (ha : Dq K p Z H a (.tuple as)) (hb : Dq K p Z H b (.tuple bs)) : Dq K p Z (upd H q (.tup [a, b])) (.ref q) (mkP as bs) := dq_new hq (.cons ha (.cons hb .nil))
end
structure Bad0 (K : PySem.W.Frag) (H : Hp) (bv rv : V) (ol xl : Addr) (wz wx : V) (bd rd : List PyData) (os xs : List V) (z x : Nat) : Prop where
  bv : Dq K 0 NZ H bv (.tuple bd)
  rv : Dq K 0 NZ H rv (.tuple rd)
  ho : H ol = some (.lst os)
  hx : H xl = some (.lst xs)
  wz : WordAt K H wz [z]
  wx : WordAt K H wx [x]
theorem Bad0.same {K : PySem.W.Frag} {H H' : Hp} {bv rv : V} {ol xl : Addr} {wz wx : V} {bd rd : List PyData} {os xs : List V} {z x : Nat} (h : Bad0 K H bv rv ol xl wz wx bd rd os xs z x) (s : Same H H') : Bad0 K H' bv rv ol xl wz wx bd rd os xs z x :=
  ⟨h.bv.same s, h.rv.same s, s _ _ h.ho, s _ _ h.hx, h.wz.t (Same.t s), h.wx.t (Same.t s)⟩
theorem sz_int {x : Nat} (h : x < 4) : szD (.int (x : Int)) ≤ 4 := by
  have : ∀ x : Nat, x < 4 → szD (.int (x : Int)) ≤ 4 := by decide
  exact this x h
theorem sz_word : ∀ {w : List Nat}, (∀ x ∈ w, x < 4) → szAll (w.map nD) ≤ 6 * w.length
  | [], _ => Nat.le_refl _
  | x :: w, h => by
    have h1 := sz_word fun y hy => h y (List.mem_cons_of_mem x hy)
    have h2 := sz_int (h x List.mem_cons_self)
    rw [List.map_cons, List.length_cons]
    show szD (.int (x : Int)) + 2 + szAll (w.map nD) ≤ _
    omega
theorem sz_row {r : Rw3} (h : r.1 < 4 ∧ r.2.1 < 4 ∧ r.2.2 < 4) : szD (rwD r) ≤ 21 := by
  have h1 := sz_int h.1
  have h2 := sz_int h.2.1
  have h3 := sz_int h.2.2
  show szD (.int (r.1 : Int)) + 2 + (szD (.int (r.2.1 : Int)) + 2 + (szD (.int (r.2.2 : Int)) + 2 + 0)) + 3 ≤ _
  omega
theorem sz_rows : ∀ {ws : List Rw3}, (∀ r ∈ ws, r.1 < 4 ∧ r.2.1 < 4 ∧ r.2.2 < 4) → szAll (ws.map rwD) ≤ 23 * ws.length
  | [], _ => Nat.le_refl _
  | x :: w, h => by
    have h1 := sz_rows fun y hy => h y (List.mem_cons_of_mem x hy)
    have h2 := sz_row (h x List.mem_cons_self)
    rw [List.map_cons, List.length_cons]
    show szD (rwD x) + 2 + szAll (w.map rwD) ≤ _
    omega
def BkS (b : Bk3) : Prop := ∀ w ∈ [b.1, b.2.1, b.2.2], w.length ≤ 5 ∧ ∀ x ∈ w, x < 4
theorem sz_blk {b : Bk3} (h : BkS b) : szD (bkD b) ≤ 108 := by
  have g : ∀ w ∈ [b.1, b.2.1, b.2.2], szD (wD w) ≤ 33 := fun w hw => by
    have := sz_word (h w hw).2
    have := (h w hw).1
    show szAll (w.map nD) + 3 ≤ 33
    omega
  have h1 := g b.1 (by simp)
  have h2 := g b.2.1 (by simp)
  have h3 := g b.2.2 (by simp)
  show szD (wD b.1) + 2 + (szD (wD b.2.1) + 2 + (szD (wD b.2.2) + 2 + 0)) + 3 ≤ _
  omega
theorem sz_blks : ∀ {bs : List Bk3}, (∀ b ∈ bs, BkS b) → szAll (bs.map bkD) ≤ 110 * bs.length
  | [], _ => Nat.le_refl _
  | x :: w, h => by
    have h1 := sz_blks fun y hy => h y (List.mem_cons_of_mem x hy)
    have h2 := sz_blk (h x List.mem_cons_self)
    rw [List.map_cons, List.length_cons]
    show szD (bkD x) + 2 + szAll (w.map bkD) ≤ _
    omega
theorem sz_crt {bs : List Bk3} {ws : List Rw3} (hb : ∀ b ∈ bs, BkS b) (hw : ∀ r ∈ ws, r.1 < 4 ∧ r.2.1 < 4 ∧ r.2.2 < 4) (h1 : bs.length ≤ 100) (h2 : ws.length ≤ 2000) : szD (crtD bs ws) ≤ 100000 := by
  have a := sz_blks hb
  have b := sz_rows hw
  show (szAll (bs.map bkD) + 3) + 2 + ((szAll (ws.map rwD) + 3) + 2 + 0) + 3 ≤ _
  omega
theorem bs56_s : ∀ b ∈ bs56, BkS b := fun b hb u hu => by
  unfold bs56 at hb
  simp only [List.mem_cons, List.not_mem_nil, or_false] at hb
  rcases hb with rfl | rfl <;> simp only [List.mem_cons, List.not_mem_nil, or_false] at hu <;> rcases hu with rfl | rfl | rfl <;> exact ⟨by simp, by decide⟩
/-- many rows alike -/
theorem rows_use {K : PySem.W.Frag} {p : Addr} {Z : Addr → Prop} {H : Hp} {Q : VK} {v : V} {r : Rw3} {m : Nat} (h : Dq K p Z H v (.tuple [rwD r])) (h1 : 1 ≤ m) (h2 : m ≤ 1000) (q : ∀ (H' : Hp) (u : V), Same H H' → Dq K p Z H' u (.tuple ((List.replicate m r).map rwD)) → Q u H') : rRepA K v (.int (m : Int)) H Q := by
  cases h with
  | tup ha hA =>
    obtain ⟨x, xs, rfl, g1, g2⟩ := dqAll_cons hA
    cases g2
    refine ⟨_, (m : Int), _, rfl, rfl, ha, by simp, by omega, by omega, by simp, fun H' t S ht => q H' _ S ?_⟩
    have e : (List.replicate ((m : Nat) : Int).toNat [x]).flatten = List.replicate m x := by
      rw [Int.toNat_natCast]; simp
    rw [e] at ht
    refine .tup ht ?_
    rw [List.map_replicate]
    have g := g1.same S
    clear ht e g1 hA ha q h1 h2
    induction m with
    | zero => exact .nil
    | succ m ih => exact .cons g ih
theorem badD_sz {b0 b1 b2 r0 r1 r2 r3 r4 : PyData} {z x y f s : Nat} (hb : szD b0 ≤ 108 ∧ szD b1 ≤ 108 ∧ szD b2 ≤ 108) (hr : szD r0 ≤ 21 ∧ szD r1 ≤ 21 ∧ szD r2 ≤ 21 ∧ szD r3 ≤ 21 ∧ szD r4 ≤ 21) (hz : z < 3) (hx : x < 3) (hy : y < 3) (hf : f < 4) (hs : s < 4) : ∀ d ∈ badD b0 b1 b2 r0 r1 r2 r3 r4 z x y f s, szD d ≤ 100000 := by
  intro d hd
  have one : ∀ {q : Nat}, q < 3 → [q].length ≤ 5 ∧ ∀ x ∈ [q], x < 4 := fun hq => ⟨by simp, fun x hx => by rw [List.mem_singleton.mp hx]; omega⟩
  have nil : ([] : List Nat).length ≤ 5 ∧ ∀ x ∈ ([] : List Nat), x < 4 := ⟨by simp, nofun⟩
  have three : ∀ {a b c : List Nat}, (a.length ≤ 5 ∧ ∀ x ∈ a, x < 4) → (b.length ≤ 5 ∧ ∀ x ∈ b, x < 4) → (c.length ≤ 5 ∧ ∀ x ∈ c, x < 4) → szD (lpD a b c) ≤ 108 := fun {a b c} h1 h2 h3 => sz_blk (b := (a, b, c)) fun w hw => by
    simp only [List.mem_cons, List.not_mem_nil, or_false] at hw
    rcases hw with rfl | rfl | rfl
    · exact h1
    · exact h2
    · exact h3
  have e1 := three (one hz) (one hx) (one hy)
  have e2 := three (one hz) nil nil
  have e3 := three (one hz) (one hz) (one hx)
  have q1 : szD (rw3D f 0 3) ≤ 21 := sz_row (r := (f, 0, 3)) ⟨hf, by show 0 < 4; omega, by show 3 < 4; omega⟩
  have q2 : szD (rw3D f 0 1) ≤ 21 := sz_row (r := (f, 0, 1)) ⟨hf, by show 0 < 4; omega, by show 1 < 4; omega⟩
  have q3 : szD (rw3D s 0 2) ≤ 21 := sz_row (r := (s, 0, 2)) ⟨hs, by show 0 < 4; omega, by show 2 < 4; omega⟩
  unfold badD at hd
  generalize lpD [z] [x] [y] = l1 at *
  generalize lpD [z] [] [] = l2 at *
  generalize lpD [z] [z] [x] = l3 at *
  generalize rw3D f 0 3 = w1 at *
  generalize rw3D f 0 1 = w2 at *
  generalize rw3D s 0 2 = w3 at *
  simp only [List.mem_cons, List.not_mem_nil, or_false] at hd
  rcases hd with rfl | rfl | rfl | rfl | rfl | rfl | rfl | rfl | rfl | rfl | rfl | rfl | rfl | rfl | rfl <;> simp only [mkP, szD, szAll] <;> omega
theorem bks_s {k : Nat → Nat} {z x y : Nat} (hk : ∀ i, 1 ≤ k i ∧ k i ≤ 5) (hz : z < 3) (hx : x < 3) (hy : y < 3) : ∀ b ∈ bks56 k z x y, BkS b := by
  have rep : ∀ {k z : Nat}, k ≤ 5 → z < 3 → (List.replicate k z).length ≤ 5 ∧ ∀ x ∈ List.replicate k z, x < 4 := fun hk hz => ⟨by rw [List.length_replicate]; exact hk, fun x hx => by rw [List.eq_of_mem_replicate hx]; omega⟩
  have one : ∀ {q : Nat}, q < 3 → [q].length ≤ 5 ∧ ∀ x ∈ [q], x < 4 := fun hq => ⟨by simp, fun x hx => by rw [List.mem_singleton.mp hx]; omega⟩
  have nil : ([] : List Nat).length ≤ 5 ∧ ∀ x ∈ ([] : List Nat), x < 4 := ⟨by simp, nofun⟩
  intro b hb u hu
  unfold bks56 at hb
  simp only [List.mem_cons, List.not_mem_nil, or_false] at hb
  rcases hb with rfl | rfl | rfl <;> simp only [List.mem_cons, List.not_mem_nil, or_false] at hu <;> rcases hu with rfl | rfl | rfl <;> first | exact rep (hk _).2 hz | exact nil | exact one hx | exact one hy
theorem goods_s {a b : Nat} (ha : a < 3) (hb : b < 3) : ∀ ws ∈ goods56 a b, ws.length ≤ 2000 ∧ ∀ r ∈ ws, r.1 < 4 ∧ r.2.1 < 4 ∧ r.2.2 < 4 := by
  have : ∀ a, a < 3 → ∀ b, b < 3 → ((goods56 a b).all fun ws => decide (ws.length ≤ 2000) && ws.all fun r => decide (r.1 < 4) && (decide (r.2.1 < 4) && decide (r.2.2 < 4))) = true := by decide
  intro ws hw
  have h := List.all_eq_true.mp (this a ha b hb) ws hw
  rw [Bool.and_eq_true] at h
  refine ⟨of_decide_eq_true h.1, fun r hr => ?_⟩
  have := List.all_eq_true.mp h.2 r hr
  simpa using this
end LA

set_option maxHeartbeats 4000000
namespace LA
open PySem PySem.Spec PyProof.Rows L2
open C8 (Cal pe_c)
section
variable {P : Program} {w : World} {K : PySem.W.Frag} {mg : Str → Option Value} {base : Heap}
abbrev s_papers : Stmt := topS 26
abbrev N_papers : List Str := ["_law_pot_here", "_law_order", "_law_xs", "_law_zero", "_law_one", "_law_two", "_law_free", "_law_says", "_law_other", "_law_lengths", "_law_turn", "_law_blocks", "_law_rows", "_law_mixed_here", "_law_needless"]
theorem sc_papers : FnScope N_papers ["_law_pot_here", "_law_order", "_law_xs"] (defScope s_papers) := ⟨rfl, rfl, rfl, by decide +kernel, rfl, by decide +kernel, by decide +kernel⟩
theorem ok_papers {f : Addr} {fd : FuncData} (F : Fun K "_law_papers" "_law_papers" s_papers f fd) (T : Bt mg) (c_take : Cal P w K mg base 1 "_law_take" spTake []) : FnOk P w K mg base CX0 2 f fd ["_law_pot_here", "_law_order", "_law_xs"] (spPapers56 K) := by
  refine F.ok sc_papers (fun vs H Q E h => ?_) (fun cdv A outer s H vs Q E hr h => ?_)
  · obtain ⟨p, ol, xl, n, a, b, z, x, y, rfl, _⟩ := h
    rfl
  · obtain ⟨p, ol, xl, n, a, b, z, x, y, rfl, hP, hn, ho, hx, no, nx, k⟩ := h
    have hu64 := hr.units
    refine ⟨_, (pss_cons (ps_par3 (i := 3) (j := 4) (l := 5) rfl sc_papers.nd rfl rfl rfl (by decide) (by decide) (by decide) rfl rfl rfl (pa_cons (pe_tup (pa_cons (pe_ix (ixLK K) (pv 2) pe_int (fun _ _ => rfl)) pa_nil)) (pa_cons (pe_tup (pa_cons (pe_ix (ixLK K) (pv 2) pe_int (fun _ _ => rfl)) pa_nil)) (pa_cons (pe_tup (pa_cons (pe_ix (ixLK K) (pv 2) pe_int (fun _ _ => rfl)) pa_nil)) pa_nil))) rfl)
(pss_cons (ps_asg (pv 1) (pg_unl rfl (pgs_cons (pg_name (i := 6) sc_papers.nd rfl (Or.inl rfl)) (pgs_cons (pg_name (i := 7) sc_papers.nd rfl (Or.inl rfl)) (pgs_cons (pg_name (i := 8) sc_papers.nd rfl (Or.inl rfl)) pgs_nil)))))
(pss_cons (ps_setLc (i := 9) (own := [("_law_turn", 10)]) (g := (gName 10)) (tt := tYes) rfl sc_papers.nd rfl rfl (sw_true rfl rfl rfl (by decide +kernel)) (pi_range1 (by rfl) T.range (pa_cons pe_int pa_nil)) (blkOk_by (N := N_papers) (sc := defScope s_papers) (by decide +kernel)) (fun _ _ _ _ _ => (pg_name (i := 10) sc_papers.nd rfl (Or.inl rfl))) (fun _ _ _ _ _ => pts_nil) (fun _ _ _ _ _ => (pe_op op_add pe_int (pe_c c_take hr (by decide) rfl (pa_cons (pv 0) (pa_cons pe_int pa_nil))))))
(pss_cons (ps_set (i := 11) sc_papers.nd rfl (Or.inl rfl) (pe_tup (pa_cons (pe_tup (pa_cons (pe_op (repAK K) (pv 3) (pe_ix (ixLK K) (pv 9) pe_int (fun _ _ => rfl))) (pa_cons (pe_op (repAK K) (pv 3) (pe_ix (ixLK K) (pv 9) pe_int (fun _ _ => rfl))) (pa_cons (pe_tup pa_nil) pa_nil)))) (pa_cons (pe_tup (pa_cons (pe_op (repAK K) (pv 3) (pe_ix (ixLK K) (pv 9) pe_int (fun _ _ => rfl))) (pa_cons (pe_op (repAK K) (pv 3) (pe_ix (ixLK K) (pv 9) pe_int (fun _ _ => rfl))) (pa_cons (pv 4) pa_nil)))) pa_nil))))
(pss_cons (ps_set (i := 11) sc_papers.nd rfl (Or.inl rfl) (pe_op (catK K) (pv 11) (pe_tup (pa_cons (pe_tup (pa_cons (pe_op (repAK K) (pv 3) (pe_ix (ixLK K) (pv 9) pe_int (fun _ _ => rfl))) (pa_cons (pe_op (repAK K) (pv 3) (pe_ix (ixLK K) (pv 9) pe_int (fun _ _ => rfl))) (pa_cons (pv 5) pa_nil)))) pa_nil))))
(pss_cons (ps_set (i := 12) sc_papers.nd rfl (Or.inl rfl) (pe_tup (pa_cons (pe_tup (pa_cons (pv 7) (pa_cons pe_int (pa_cons pe_int pa_nil)))) (pa_cons (pe_tup (pa_cons (pv 8) (pa_cons pe_int (pa_cons pe_int pa_nil)))) (pa_cons (pe_tup (pa_cons (pv 7) (pa_cons pe_int (pa_cons pe_int pa_nil)))) (pa_cons (pe_tup (pa_cons (pv 8) (pa_cons pe_int (pa_cons pe_int pa_nil)))) (pa_cons (pe_tup (pa_cons (pv 6) (pa_cons pe_int (pa_cons pe_int pa_nil)))) pa_nil)))))))
(pss_cons (ps_set (i := 13) sc_papers.nd rfl (Or.inl rfl) (pe_tup (pa_cons (pe_ix (ixTK K) (pv 12) pe_int (fun _ _ => rfl)) (pa_cons (pe_ix (ixTK K) (pv 12) pe_int (fun _ _ => rfl)) (pa_cons (pe_ix (ixTK K) (pv 12) pe_int (fun _ _ => rfl)) (pa_cons (pe_ix (ixTK K) (pv 12) pe_int (fun _ _ => rfl)) (pa_cons (pe_ix (ixTK K) (pv 12) pe_int (fun _ _ => rfl)) pa_nil)))))))
(pss_cons (ps_set (i := 14) sc_papers.nd rfl (Or.inl rfl) (pe_op (catK K) (pe_op (catK K) (pe_op (catK K) (pe_tup (pa_cons (pe_tup (pa_cons (pv 8) (pa_cons pe_int (pa_cons pe_int pa_nil)))) pa_nil)) (pe_slice (slTK K) (pv 12) po_none (po_some pe_int))) (pe_tup (pa_cons (pe_ix (ixTK K) (pv 12) pe_int (fun _ _ => rfl)) pa_nil))) (pe_slice (slTK K) (pv 12) (po_some pe_int) po_none)))
(pss_one (ps_ret (pe_tup (pa_cons (pv 11) (pa_cons (pe_lst (pa_cons (pv 12) (pa_cons (pv 13) (pa_cons (pv 14) (pa_cons (pe_op (catK K) (pv 12) (pe_tup (pa_cons (pe_tup (pa_cons (pv 6) (pa_cons pe_int (pa_cons pe_int pa_nil)))) pa_nil))) pa_nil))))) pa_nil))))))))))))), ?_⟩
    rw [show L2.start N_papers [V.ref p, .ref ol, .ref xl] = [some (.ref p), some (.ref ol), some (.ref xl), none, none, none, none, none, none, none, none, none, none, none, none] from rfl]
    refine ⟨_, rfl, xl, _, _, _, rfl, rfl, SqL.of hx, atI_nat (j := 0) rfl, szl (by simp), fun z1 f1 => ?_⟩
    have T1 := sm (o := .tup [nV z]) f1
    refine ⟨_, rfl, xl, _, _, _, rfl, rfl, SqL.of (T1 _ _ hx), atI_nat (j := 1) rfl, szl (by simp), fun z2 f2 => ?_⟩
    have T2 := sm (o := .tup [nV x]) f2
    refine ⟨_, rfl, xl, _, _, _, rfl, rfl, SqL.of (T2 _ _ (T1 _ _ hx)), atI_nat (j := 2) rfl, szl (by simp), fun z3 f3 => ?_⟩
    have T3 := sm (o := .tup [nV y]) f3
    have w1 : WordAt K (upd (upd (upd H z1 (.tup [nV z])) z2 (.tup [nV x])) z3 (.tup [nV y])) (.ref z1) [z] := ⟨z1, rfl, (Same.t (T2.trans T3)).seq (SqT.of upd_same)⟩
    have w2 : WordAt K (upd (upd (upd H z1 (.tup [nV z])) z2 (.tup [nV x])) z3 (.tup [nV y])) (.ref z2) [x] := ⟨z2, rfl, (Same.t T3).seq (SqT.of upd_same)⟩
    have w3 : WordAt K (upd (upd (upd H z1 (.tup [nV z])) z2 (.tup [nV x])) z3 (.tup [nV y])) (.ref z3) [y] := ⟨z3, rfl, SqT.of upd_same⟩
    have S3 := T1.trans (T2.trans T3)
    have P3 := hP.same S3
    have ho3 := S3 _ _ ho
    generalize upd (upd (upd H z1 (.tup [nV z])) z2 (.tup [nV x])) z3 (.tup [nV y]) = H3 at w1 w2 w3 S3 P3 ho3
    clear T1 T2 T3 f1 f2 f3
    try dsimp only [L2.gName, List.set_cons_succ, List.set_cons_zero]
    refine ⟨_, _, _, rfl, ?_⟩
    try dsimp only [L2.gName, List.set_cons_succ, List.set_cons_zero]
    refine ⟨_, rfl, ol, _, rfl, SqL.of ho3, rfl, _, _, rfl, _, _, rfl, _, _, rfl, rfl, ?_⟩
    try dsimp only [L2.gName, List.set_cons_succ, List.set_cons_zero]
    refine ⟨_, rfl, by decide, by decide, fun D hD => ?_⟩
    have nD := P3.ne hD
    refine lc_range (lo := 0) (fun t H' => ∃ w : List Nat, H' D = some (.lst (w.map nV)) ∧ w.length = t ∧ (∀ x ∈ w, 1 ≤ x ∧ x ≤ 5) ∧ SameX p H3 H' ∧ PotAt H' p (n + t))
          ⟨[], upd_same, rfl, nofun, Same.x (sm hD), P3.same (sm hD)⟩ ?_ ?_
    · rintro t H4 ht ⟨w, h4, hw, hx4, X4, P4⟩
      refine ⟨rfl, tyes ?_⟩
      refine ⟨_, rfl, p, 5, _, rfl, by decide, by decide, P4, by omega, fun H5 m s5 P5 hm => ?_⟩
      have h5 := s5 D _ h4 nD
      refine ⟨_, _, rfl, rfl, ?_⟩
      refine ⟨_, h5, Nat.lt_of_le_of_lt (show (w.map nV).length ≤ 1000 by simp; omega) (by decide), w ++ [1 + m], ?_, by simp [hw], fun y hy => ?_, (X4.trans s5).own hD, P5.new nD⟩
      · rw [upd_same, List.map_append]
        have e : (1 : Int) + (m : Int) = ((1 + m : Nat) : Int) := by omega
        show some (HO.lst (List.map nV w ++ [V.int ((1 : Int) + (m : Int))])) = _
        rw [e]; rfl
      · rcases List.mem_append.mp hy with hy | hy
        · exact hx4 y hy
        · rw [List.mem_singleton.mp hy]; omega
    rintro H4 ⟨w, h4, hw, hx4, X4, P4⟩
    have hp0 := P3.lst
    obtain ⟨ys3, hp3⟩ := hp0
    have w1 := w1.t (X4.t hp3)
    have w2 := w2.t (X4.t hp3)
    have w3 := w3.t (X4.t hp3)
    have X04 : SameX p H H4 := (Same.x S3).trans X4
    obtain ⟨k0, k1, k2, k3, k4, k5, rfl⟩ : ∃ k0 k1 k2 k3 k4 k5, w = [k0, k1, k2, k3, k4, k5] := by
      match w, hw with
      | [a, b, c, d, e, f], _ => exact ⟨_, _, _, _, _, _, rfl⟩
    have b0 := hx4 k0 (by simp)
    have b1 := hx4 k1 (by simp)
    have b2 := hx4 k2 (by simp)
    have b3 := hx4 k3 (by simp)
    have b4 := hx4 k4 (by simp)
    have b5 := hx4 k5 (by simp)
    try dsimp only [L2.gName, List.set_cons_succ, List.set_cons_zero]
    refine ⟨_, rfl, _, rfl, D, _, _, _, rfl, rfl, SqL.of h4, atI_nat (j := 0) rfl, rep_use w1 b0.1 (by omega) fun H5 u0 S5 c0 => ?_⟩
    refine ⟨_, rfl, _, rfl, D, _, _, _, rfl, rfl, SqL.of (S5 _ _ h4), atI_nat (j := 1) rfl, rep_use (w1.t (Same.t S5)) b1.1 (by omega) fun H6 u1 S6 c1 => ?_⟩
    have c0 := c0.t (Same.t S6)
    refine ⟨szl (by simp), fun e0 fe => ?_⟩
    have T6 := sm (o := .tup []) fe
    have c0 := c0.t (Same.t T6)
    have c1 := c1.t (Same.t T6)
    have c2 : WordAt K (upd H6 e0 (.tup [])) (.ref e0) [] := ⟨e0, rfl, SqT.of upd_same⟩
    refine ⟨szl (by simp), fun t0 ft0 => ?_⟩
    have T7 := sm (o := .tup [u0, u1, V.ref e0]) ft0
    have B0 : Dq K 0 (fun _ => False) (upd (upd H6 e0 (.tup [])) t0 (.tup [u0, u1, V.ref e0])) (.ref t0) (bkD (List.replicate k0 z, List.replicate k1 z, [])) := bk_new ft0 c0 c1 c2
    have S7 := S5.trans (S6.trans (T6.trans T7))
    generalize upd (upd H6 e0 (.tup [])) t0 (.tup [u0, u1, V.ref e0]) = H7 at B0 S7
    clear T6 T7 c0 c1 c2 fe ft0 S5 S6
    refine ⟨_, rfl, _, rfl, D, _, _, _, rfl, rfl, SqL.of (S7 _ _ h4), atI_nat (j := 2) rfl, rep_use (w1.t (Same.t S7)) b2.1 (by omega) fun H8 u2 S8 c0 => ?_⟩
    refine ⟨_, rfl, _, rfl, D, _, _, _, rfl, rfl, SqL.of (S8 _ _ (S7 _ _ h4)), atI_nat (j := 3) rfl, rep_use (w1.t (Same.t (S7.trans S8))) b3.1 (by omega) fun H9 u3 S9 c1 => ?_⟩
    have S79 := S7.trans (S8.trans S9)
    refine ⟨_, rfl, szl (by simp), fun t1 ft1 => ?_⟩
    have T10 := sm (o := .tup [u2, u3, V.ref z2]) ft1
    have B1 : Dq K 0 (fun _ => False) (upd H9 t1 (.tup [u2, u3, V.ref z2])) (.ref t1) (bkD (List.replicate k2 z, List.replicate k3 z, [x])) := bk_new ft1 (c0.t (Same.t S9)) c1 (w2.t (Same.t S79))
    have B0 := B0.same (S8.trans (S9.trans T10))
    have S10 := S79.trans T10
    generalize upd H9 t1 (.tup [u2, u3, V.ref z2]) = H10 at B0 B1 S10
    clear T10 c0 c1 ft1 S79 S8 S9 S7
    refine ⟨szl (by simp), fun q1 fq1 => ?_⟩
    have T11 := sm (o := .tup [V.ref t0, V.ref t1]) fq1
    have BB : Dq K 0 (fun _ => False) (upd H10 q1 (.tup [V.ref t0, V.ref t1])) (.ref q1) (.tuple [bkD (List.replicate k0 z, List.replicate k1 z, []), bkD (List.replicate k2 z, List.replicate k3 z, [x])]) := dq_new fq1 (.cons B0 (.cons B1 .nil))
    have S11 := S10.trans T11
    generalize upd H10 q1 (.tup [V.ref t0, V.ref t1]) = H11 at BB S11
    clear T11 B0 B1 S10 fq1
    try dsimp only [L2.gName, List.set_cons_succ, List.set_cons_zero]
    refine ⟨_, rfl, _, rfl, _, rfl, D, _, _, _, rfl, rfl, SqL.of (S11 _ _ h4), atI_nat (j := 4) rfl, rep_use (w1.t (Same.t S11)) b4.1 (by omega) fun H8 u2 S8 c0 => ?_⟩
    refine ⟨_, rfl, _, rfl, D, _, _, _, rfl, rfl, SqL.of (S8 _ _ (S11 _ _ h4)), atI_nat (j := 5) rfl, rep_use (w1.t (Same.t (S11.trans S8))) b5.1 (by omega) fun H9 u3 S9 c1 => ?_⟩
    have S79 := S11.trans (S8.trans S9)
    refine ⟨_, rfl, szl (by simp), fun t1 ft1 => ?_⟩
    have T10 := sm (o := .tup [u2, u3, V.ref z3]) ft1
    have B1 : Dq K 0 (fun _ => False) (upd H9 t1 (.tup [u2, u3, V.ref z3])) (.ref t1) (bkD (List.replicate k4 z, List.replicate k5 z, [y])) := bk_new ft1 (c0.t (Same.t S9)) c1 (w3.t (Same.t S79))
    have BB := BB.same (S8.trans (S9.trans T10))
    have S10 := S79.trans T10
    generalize upd H9 t1 (.tup [u2, u3, V.ref z3]) = H10 at BB B1 S10
    clear T10 c0 c1 ft1 S79 S8 S9 S11
    refine ⟨szl (by simp), fun q2 fq2 => ?_⟩
    have T11 := sm (o := .tup [V.ref t1]) fq2
    have B2 : Dq K 0 (fun _ => False) (upd H10 q2 (.tup [V.ref t1])) (.ref q2) (.tuple [bkD (List.replicate k4 z, List.replicate k5 z, [y])]) := dq_new fq2 (.cons B1 .nil)
    refine dq_cat (BB.same T11) B2 (by simp) fun H12 bv S12 BV => ?_
    have S12 := S10.trans (T11.trans S12)
    clear T11 B2 BB B1 S10 fq2
    try dsimp only [L2.gName, List.set_cons_succ, List.set_cons_zero, List.cons_append, List.nil_append]
    refine ⟨_, rfl, szl (by simp), fun t0 ft0 => ?_⟩
    have T0 := sm (o := .tup [nV a, V.int 2, V.int 0]) ft0
    have R0 : Dq K 0 (fun _ => False) (upd H12 t0 (.tup [nV a, V.int 2, V.int 0])) (.ref t0) (rw3D a 2 0) := rw_new (x := a) (y := 2) (z := 0) ft0
    generalize upd H12 t0 (.tup [nV a, V.int 2, V.int 0]) = G0 at T0 R0
    refine ⟨_, rfl, szl (by simp), fun t1 ft1 => ?_⟩
    have T1 := sm (o := .tup [nV b, V.int 1, V.int 2]) ft1
    have R1 : Dq K 0 (fun _ => False) (upd G0 t1 (.tup [nV b, V.int 1, V.int 2])) (.ref t1) (rw3D b 1 2) := rw_new (x := b) (y := 1) (z := 2) ft1
    generalize upd G0 t1 (.tup [nV b, V.int 1, V.int 2]) = G1 at T1 R1
    refine ⟨_, rfl, szl (by simp), fun t2 ft2 => ?_⟩
    have T2 := sm (o := .tup [nV a, V.int 0, V.int 2]) ft2
    have R2 : Dq K 0 (fun _ => False) (upd G1 t2 (.tup [nV a, V.int 0, V.int 2])) (.ref t2) (rw3D a 0 2) := rw_new (x := a) (y := 0) (z := 2) ft2
    generalize upd G1 t2 (.tup [nV a, V.int 0, V.int 2]) = G2 at T2 R2
    refine ⟨_, rfl, szl (by simp), fun t3 ft3 => ?_⟩
    have T3 := sm (o := .tup [nV b, V.int 0, V.int 1]) ft3
    have R3 : Dq K 0 (fun _ => False) (upd G2 t3 (.tup [nV b, V.int 0, V.int 1])) (.ref t3) (rw3D b 0 1) := rw_new (x := b) (y := 0) (z := 1) ft3
    generalize upd G2 t3 (.tup [nV b, V.int 0, V.int 1]) = G3 at T3 R3
    refine ⟨_, rfl, szl (by simp), fun t4 ft4 => ?_⟩
    have T4 := sm (o := .tup [nV 0, V.int 0, V.int 0]) ft4
    have R4 : Dq K 0 (fun _ => False) (upd G3 t4 (.tup [nV 0, V.int 0, V.int 0])) (.ref t4) (rw3D 0 0 0) := rw_new (x := 0) (y := 0) (z := 0) ft4
    generalize upd G3 t4 (.tup [nV 0, V.int 0, V.int 0]) = G4 at T4 R4
    have R3 := R3.same T4
    have R2 := R2.same (T3.trans T4)
    have R1 := R1.same (T2.trans (T3.trans T4))
    have R0 := R0.same (T1.trans (T2.trans (T3.trans T4)))
    have SG := T0.trans (T1.trans (T2.trans (T3.trans T4)))
    refine ⟨szl (by simp), fun q3 fq3 => ?_⟩
    have T5 := sm (o := .tup [V.ref t0, V.ref t1, V.ref t2, V.ref t3, V.ref t4]) fq3
    have RR : Dq K 0 (fun _ => False) (upd G4 q3 (.tup [V.ref t0, V.ref t1, V.ref t2, V.ref t3, V.ref t4])) (.ref q3) (.tuple [rw3D a 2 0, rw3D b 1 2, rw3D a 0 2, rw3D b 0 1, rw3D 0 0 0]) := dq_new fq3 (.cons R0 (.cons R1 (.cons R2 (.cons R3 (.cons R4 .nil)))))
    have BV := BV.same (SG.trans T5)
    have S13 := S12.trans (SG.trans T5)
    generalize upd G4 q3 (.tup [V.ref t0, V.ref t1, V.ref t2, V.ref t3, V.ref t4]) = H13 at BV RR S13
    clear SG T0 T1 T2 T3 T4 T5 R0 R1 R2 R3 R4 ft0 ft1 ft2 ft3 ft4 fq3 S12
    try dsimp only [L2.gName, List.set_cons_succ, List.set_cons_zero]
    refine ⟨_, rfl, ?_⟩
    dsimp only [L2.tC, L2.tPart, L2.tNoPart]
    refine dq_item (i := 1) RR rfl fun v1 I1 => ?_
    refine ⟨_, rfl, ?_⟩
    dsimp only [L2.tC, L2.tPart, L2.tNoPart]
    refine dq_item (i := 3) RR rfl fun v3 I3 => ?_
    refine ⟨_, rfl, ?_⟩
    dsimp only [L2.tC, L2.tPart, L2.tNoPart]
    refine dq_item (i := 0) RR rfl fun v0 I0 => ?_
    refine ⟨_, rfl, ?_⟩
    dsimp only [L2.tC, L2.tPart, L2.tNoPart]
    refine dq_item (i := 2) RR rfl fun v2 I2 => ?_
    refine ⟨_, rfl, ?_⟩
    dsimp only [L2.tC, L2.tPart, L2.tNoPart]
    refine dq_item (i := 4) RR rfl fun v4 I4 => ?_
    refine ⟨szl (by simp), fun q4 fq4 => ?_⟩
    have T5 := sm (o := .tup [v1, v3, v0, v2, v4]) fq4
    have RM : Dq K 0 (fun _ => False) (upd H13 q4 (.tup [v1, v3, v0, v2, v4])) (.ref q4) (.tuple [rw3D b 1 2, rw3D b 0 1, rw3D a 2 0, rw3D a 0 2, rw3D 0 0 0]) := dq_new fq4 (.cons I1 (.cons I3 (.cons I0 (.cons I2 (.cons I4 .nil)))))
    have BV := BV.same T5
    have RR := RR.same T5
    have S14 := S13.trans T5
    generalize upd H13 q4 (.tup [v1, v3, v0, v2, v4]) = H14 at BV RR RM S14
    clear T5 fq4 I0 I1 I2 I3 I4 S13
    try dsimp only [L2.gName, List.set_cons_succ, List.set_cons_zero]
    refine ⟨_, rfl, szl (by simp), fun t5 ft5 => ?_⟩
    have T5 := sm (o := .tup [nV b, V.int 1, V.int 0]) ft5
    have R5 : Dq K 0 (fun _ => False) (upd H14 t5 (.tup [nV b, V.int 1, V.int 0])) (.ref t5) (rw3D b 1 0) := rw_new (x := b) (y := 1) (z := 0) ft5
    generalize upd H14 t5 (.tup [nV b, V.int 1, V.int 0]) = G5 at T5 R5
    refine ⟨szl (by simp), fun q5 fq5 => ?_⟩
    have T6 := sm (o := .tup [V.ref t5]) fq5
    have N1 : Dq K 0 (fun _ => False) (upd G5 q5 (.tup [V.ref t5])) (.ref q5) (.tuple [rw3D b 1 0]) := dq_new fq5 (.cons R5 .nil)
    refine ⟨_, rfl, ?_⟩
    dsimp only [L2.tC, L2.tPart, L2.tNoPart]
    refine ⟨_, rfl, dq_to (k := 4) (RR.same (T5.trans T6)) fun G7 x7 T7 N2 => ?_⟩
    refine dq_cat (N1.same T7) N2 (by simp) fun G8 x8 T8 N3 => ?_
    have T58 := T5.trans (T6.trans (T7.trans T8))
    refine ⟨_, rfl, ?_⟩
    dsimp only [L2.tC, L2.tPart, L2.tNoPart]
    refine dq_item (i := 2) (RR.same T58) rfl fun v2 I2 => ?_
    refine ⟨szl (by simp), fun q6 fq6 => ?_⟩
    have T9 := sm (o := .tup [v2]) fq6
    refine dq_cat (N3.same T9) (dq_new fq6 (.cons I2 .nil)) (by simp) fun G10 x10 T10 N4 => ?_
    refine ⟨_, rfl, ?_⟩
    dsimp only [L2.tC, L2.tPart, L2.tNoPart]
    refine ⟨_, rfl, dq_from (k := 4) (RR.same (T58.trans (T9.trans T10))) fun G11 x11 T11 N5 => ?_⟩
    refine dq_cat (N4.same T11) N5 (by simp) fun G12 x12 T12 RN => ?_
    have SG := T58.trans (T9.trans (T10.trans (T11.trans T12)))
    have BV := BV.same SG
    have RR := RR.same SG
    have RM := RM.same SG
    have S15 := S14.trans SG
    clear SG T5 T6 T7 T8 T9 T10 T11 T12 T58 N1 N2 N3 N4 N5 fq5 fq6 ft5 R5 I2 S14
    try dsimp only [L2.gName, List.set_cons_succ, List.set_cons_zero, List.cons_append, List.nil_append, List.take, List.drop]
    refine ⟨_, rfl, _, rfl, _, rfl, _, rfl, _, rfl, _, rfl, szl (by simp), fun t6 ft6 => ?_⟩
    have T6 := sm (o := .tup [nV 0, V.int 0, V.int 0]) ft6
    have R6 : Dq K 0 (fun _ => False) (upd G12 t6 (.tup [nV 0, V.int 0, V.int 0])) (.ref t6) (rw3D 0 0 0) := rw_new (x := 0) (y := 0) (z := 0) ft6
    generalize upd G12 t6 (.tup [nV 0, V.int 0, V.int 0]) = G13 at T6 R6
    refine ⟨szl (by simp), fun q7 fq7 => ?_⟩
    have T7 := sm (o := .tup [V.ref t6]) fq7
    refine dq_cat (RR.same (T6.trans T7)) (dq_new fq7 (.cons R6 .nil)) (by simp) fun G15 gv T8 RL => ?_
    have T68 := T6.trans (T7.trans T8)
    have BV := BV.same T68
    have RR := RR.same T68
    have RM := RM.same T68
    have RN := RN.same T68
    have S16 := S15.trans T68
    clear T6 T7 T8 T68 R6 ft6 fq7 S15
    refine ⟨szl (by simp), fun gl fgl => ?_⟩
    have T9 := sm (o := .lst [V.ref q3, V.ref q4, x12, gv]) fgl
    refine ⟨szl (by simp), fun t fw => ?_⟩
    have T10 := sm (o := .tup [bv, V.ref gl]) fw
    have SE := S16.trans (T9.trans T10)
    have T := T9.trans T10
    refine k _ _ (fun i => [k0, k1, k2, k3, k4, k5].getD i 1) (X04.trans (Same.x SE)) ((P4.same SE).mono (by omega)) (fun i => ?_) ⟨t, gl, bv, _, rfl, SqT.of upd_same, BV.same T, T10 _ _ upd_same, ?_⟩
    · match i with
      | 0 => exact b0
      | 1 => exact b1
      | 2 => exact b2
      | 3 => exact b3
      | 4 => exact b4
      | 5 => exact b5
      | i + 6 => exact ⟨Nat.le_refl 1, show (1 : Nat) ≤ 5 by decide⟩
    · exact .cons (RR.same T) (.cons (RM.same T) (.cons (RN.same T) (.cons (RL.same T) .nil)))
end
end LA

set_option maxHeartbeats 4000000
namespace LA
open PySem PySem.Spec PyProof.Rows L2
open C8 (Cal pe_c)
section
variable {P : Program} {w : World} {K : PySem.W.Frag} {mg : Str → Option Value} {base : Heap}
abbrev s_bad_papers : Stmt := topS 27
abbrev N_bad_papers : List Str := ["_law_blocks", "_law_rows", "_law_order", "_law_xs", "_law_zero", "_law_one", "_law_found"]
theorem sc_bad_papers : FnScope N_bad_papers ["_law_blocks", "_law_rows", "_law_order", "_law_xs"] (defScope s_bad_papers) := ⟨rfl, rfl, rfl, by decide +kernel, rfl, by decide +kernel, by decide +kernel⟩
theorem ok_bad_papers {f : Addr} {fd : FuncData} (F : Fun K "_law_bad_papers" "_law_bad_papers" s_bad_papers f fd) (T : Bt mg) : FnOk P w K mg base CX0 1 f fd ["_law_blocks", "_law_rows", "_law_order", "_law_xs"] (spBad56 K) := by
  refine F.ok sc_bad_papers (fun vs H Q E h => ?_) (fun cdv A outer s H vs Q E hr h => ?_)
  · obtain ⟨bv, rv, ol, xl, b0, b1, b2, r0, r1, r2, r3, r4, f, s, t, z, x, y, rfl, _⟩ := h
    rfl
  · obtain ⟨bv, rv, ol, xl, b0, b1, b2, r0, r1, r2, r3, r4, fr, sy, ot, z, x, y, rfl, hb, hd, lb, ld, ho, hx, k⟩ := h
    have hu64 := hr.units
    refine ⟨_, (pss_cons (ps_par (i := 4) (j := 5) rfl sc_bad_papers.nd rfl rfl (by decide) rfl rfl (pa_cons (pe_tup (pa_cons (pe_ix (ixLK K) (pv 3) pe_int (fun _ _ => rfl)) pa_nil)) (pa_cons (pe_tup (pa_cons (pe_ix (ixLK K) (pv 3) pe_int (fun _ _ => rfl)) pa_nil)) pa_nil)) rfl)
(pss_cons (ps_set (i := 6) sc_bad_papers.nd rfl (Or.inl rfl) (pe_lst (pa_cons (pe_tup (pa_cons (pv 0) (pa_cons (pe_op (catK K) (pe_op (catK K) (pe_slice (slTK K) (pv 1) (po_some pe_int) (po_some pe_int)) (pe_slice (slTK K) (pv 1) po_none (po_some pe_int))) (pe_slice (slTK K) (pv 1) (po_some pe_int) po_none)) pa_nil))) (pa_cons (pe_tup (pa_cons (pv 0) (pa_cons (pe_slice (slTK K) (pv 1) po_none (po_some (pe_un un_neg pe_int))) pa_nil))) (pa_cons (pe_tup (pa_cons (pv 0) (pa_cons (pe_slice (slTK K) (pv 1) (po_some pe_int) po_none) pa_nil))) pa_nil)))))
(pss_cons (ps_expr (pe_bm PySem.F.plainAttrs_list PySem.F.slot_list_append PySem.F.type_list_append mt_append (pv 6) (pa_cons (pe_tup (pa_cons (pv 0) (pa_cons (pe_op (catK K) (pe_slice (slTK K) (pv 1) po_none (po_some pe_int)) (pe_slice (slTK K) (pv 1) (po_some pe_int) po_none)) pa_nil))) pa_nil)))
(pss_cons (ps_expr (pe_bm PySem.F.plainAttrs_list PySem.F.slot_list_append PySem.F.type_list_append mt_append (pv 6) (pa_cons (pe_tup (pa_cons (pv 0) (pa_cons (pe_op (catK K) (pe_slice (slTK K) (pv 1) po_none (po_some pe_int)) (pe_tup (pa_cons (pe_tup (pa_cons (pe_ix (ixLK K) (pv 2) pe_int (fun _ _ => rfl)) (pa_cons pe_int (pa_cons pe_int pa_nil)))) pa_nil))) pa_nil))) pa_nil)))
(pss_cons (ps_expr (pe_bm PySem.F.plainAttrs_list PySem.F.slot_list_append PySem.F.type_list_append mt_append (pv 6) (pa_cons (pe_tup (pa_cons (pv 0) (pa_cons (pe_op (catK K) (pe_slice (slTK K) (pv 1) po_none (po_some pe_int)) (pe_tup (pa_cons (pe_tup (pa_cons (pe_ix (ixLK K) (pv 2) pe_int (fun _ _ => rfl)) (pa_cons pe_int (pa_cons pe_int pa_nil)))) pa_nil))) pa_nil))) pa_nil)))
(pss_cons (ps_expr (pe_bm PySem.F.plainAttrs_list PySem.F.slot_list_append PySem.F.type_list_append mt_append (pv 6) (pa_cons (pe_tup (pa_cons (pv 0) (pa_cons (pe_op (catK K) (pv 1) (pe_tup (pa_cons (pe_tup (pa_cons (pe_ix (ixLK K) (pv 2) pe_int (fun _ _ => rfl)) (pa_cons pe_int (pa_cons pe_int pa_nil)))) pa_nil))) pa_nil))) pa_nil)))
(pss_cons (ps_expr (pe_bm PySem.F.plainAttrs_list PySem.F.slot_list_append PySem.F.type_list_append mt_append (pv 6) (pa_cons (pe_tup (pa_cons (pe_tup (pa_cons (pe_ix (ixTK K) (pv 0) pe_int (fun _ _ => rfl)) (pa_cons (pe_ix (ixTK K) (pv 0) pe_int (fun _ _ => rfl)) (pa_cons (pe_tup (pa_cons (pv 4) (pa_cons (pv 5) (pa_cons (pe_tup (pa_cons (pe_ix (ixLK K) (pv 3) pe_int (fun _ _ => rfl)) pa_nil)) pa_nil)))) pa_nil)))) (pa_cons (pv 1) pa_nil))) pa_nil)))
(pss_cons (ps_expr (pe_bm PySem.F.plainAttrs_list PySem.F.slot_list_append PySem.F.type_list_append mt_append (pv 6) (pa_cons (pe_tup (pa_cons (pe_op (catK K) (pe_tup (pa_cons (pe_tup (pa_cons (pv 4) (pa_cons (pe_tup pa_nil) (pa_cons (pe_tup pa_nil) pa_nil)))) pa_nil)) (pe_slice (slTK K) (pv 0) (po_some pe_int) po_none)) (pa_cons (pv 1) pa_nil))) pa_nil)))
(pss_cons (ps_expr (pe_bm PySem.F.plainAttrs_list PySem.F.slot_list_append PySem.F.type_list_append mt_append (pv 6) (pa_cons (pe_tup (pa_cons (pe_op (catK K) (pe_tup (pa_cons (pe_tup (pa_cons (pv 4) (pa_cons (pv 4) (pa_cons (pv 5) pa_nil)))) pa_nil)) (pe_slice (slTK K) (pv 0) (po_some pe_int) po_none)) (pa_cons (pv 1) pa_nil))) pa_nil)))
(pss_cons (ps_expr (pe_bm PySem.F.plainAttrs_list PySem.F.slot_list_append PySem.F.type_list_append mt_append (pv 6) (pa_cons (pe_tup (pa_cons (pe_op (catK K) (pe_op (catK K) (pe_slice (slTK K) (pv 0) po_none (po_some pe_int)) (pe_slice (slTK K) (pv 0) (po_some pe_int) po_none)) (pe_slice (slTK K) (pv 0) (po_some pe_int) (po_some pe_int))) (pa_cons (pv 1) pa_nil))) pa_nil)))
(pss_one (ps_ret (pe_op op_cat (pv 6) (pe_lst (pa_cons (pe_tup (pa_cons (pe_slice (slTK K) (pv 0) po_none (po_some pe_int)) (pa_cons (pv 1) pa_nil))) (pa_cons (pe_tup (pa_cons (pv 1) (pa_cons (pv 0) pa_nil))) (pa_cons (pe_tup (pa_cons (pe_callTy (lstK K) (by rfl) T.list (by decide +kernel) (pa_cons (pv 0) pa_nil)) (pa_cons (pv 1) pa_nil))) (pa_cons (pe_tup (pa_cons (pv 0) (pa_cons (pe_callTy (lstK K) (by rfl) T.list (by decide +kernel) (pa_cons (pv 1) pa_nil)) pa_nil))) pa_nil)))))))))))))))))), ?_⟩
    rw [show L2.start N_bad_papers [bv, rv, .ref ol, .ref xl] = [some bv, some rv, some (.ref ol), some (.ref xl), none, none, none] from rfl]
    refine ⟨_, rfl, xl, _, _, _, rfl, rfl, SqL.of hx, atI_nat (j := 0) rfl, szl (by simp), fun z1 f1 => ?_⟩
    have T1 := sm (o := .tup [nV z]) f1
    refine ⟨_, rfl, xl, _, _, _, rfl, rfl, SqL.of (T1 _ _ hx), atI_nat (j := 1) rfl, szl (by simp), fun z2 f2 => ?_⟩
    have T2 := sm (o := .tup [nV x]) f2
    refine ⟨_, _, rfl, ?_⟩
    have SB := T1.trans T2
    have W : Bad0 K (upd (upd H z1 (.tup [nV z])) z2 (.tup [nV x])) bv rv ol xl (.ref z1) (.ref z2) [b0, b1, b2] [r0, r1, r2, r3, r4] [nV fr, nV sy, nV ot] [nV z, nV x, nV y] z x :=
      ⟨hb.same SB, hd.same SB, SB _ _ ho, SB _ _ hx, ⟨z1, rfl, (Same.t T2).seq (SqT.of upd_same)⟩, ⟨z2, rfl, SqT.of upd_same⟩⟩
    generalize upd (upd H z1 (.tup [nV z])) z2 (.tup [nV x]) = G at W SB
    clear T1 T2 f1 f2
    try dsimp only [L2.gName, List.set_cons_succ, List.set_cons_zero]
    refine ⟨_, rfl, ?_⟩
    have D1 := W.bv
    refine ⟨_, rfl, ?_⟩
    dsimp only [L2.tC, L2.tPart, L2.tNoPart, L2.tUn]
    refine ⟨_, rfl, _, rfl, dq_mid (a := 2) (b := 3) (by simp) W.rv fun H2 v3 T4 D5 => ?_⟩
    have D1 := D1.same T4
    refine ⟨_, rfl, ?_⟩
    dsimp only [L2.tC, L2.tPart, L2.tNoPart, L2.tUn]
    refine ⟨_, rfl, dq_to (k := 2) (W.same (T4)).rv fun H6 v7 T8 D9 => ?_⟩
    have D1 := D1.same T8
    have D5 := D5.same T8
    refine dq_cat D5 D9 (by simp) fun H10 v11 T12 D13 => ?_
    have D1 := D1.same T12
    refine ⟨_, rfl, ?_⟩
    dsimp only [L2.tC, L2.tPart, L2.tNoPart, L2.tUn]
    refine ⟨_, rfl, dq_from (k := 3) (W.same (Same.trans (Same.trans (T4) T8) T12)).rv fun H14 v15 T16 D17 => ?_⟩
    have D1 := D1.same T16
    have D13 := D13.same T16
    refine dq_cat D13 D17 (by simp) fun H18 v19 T20 D21 => ?_
    have D1 := D1.same T20
    refine ⟨szl (by simp), fun q22 f22 => ?_⟩
    have D24 : Dq K 0 NZ (upd H18 q22 (.tup [bv, v19])) (.ref q22) (.tuple _) := dq_new f22 (.cons D1 (.cons D21 .nil))
    have T23 := sm (o := .tup [bv, v19]) f22
    generalize upd H18 q22 (.tup [bv, v19]) = H25 at D24 T23
    refine ⟨_, rfl, ?_⟩
    have D26 := (W.same (Same.trans (Same.trans (Same.trans (Same.trans (Same.trans (T4) T8) T12) T16) T20) T23)).bv
    refine ⟨_, rfl, ?_⟩
    dsimp only [L2.tC, L2.tPart, L2.tNoPart, L2.tUn]
    refine ⟨_, rfl, _, rfl, ?_⟩
    refine dq_last (by simp) (W.same (Same.trans (Same.trans (Same.trans (Same.trans (Same.trans (T4) T8) T12) T16) T20) T23)).rv fun H27 v28 T29 D30 => ?_
    have D24 := D24.same T29
    have D26 := D26.same T29
    refine ⟨szl (by simp), fun q31 f31 => ?_⟩
    have D33 : Dq K 0 NZ (upd H27 q31 (.tup [bv, v28])) (.ref q31) (.tuple _) := dq_new f31 (.cons D26 (.cons D30 .nil))
    have T32 := sm (o := .tup [bv, v28]) f31
    generalize upd H27 q31 (.tup [bv, v28]) = H34 at D33 T32
    have D24 := D24.same T32
    refine ⟨_, rfl, ?_⟩
    have D35 := (W.same (Same.trans (Same.trans (Same.trans (Same.trans (Same.trans (Same.trans (Same.trans (T4) T8) T12) T16) T20) T23) T29) T32)).bv
    refine ⟨_, rfl, ?_⟩
    dsimp only [L2.tC, L2.tPart, L2.tNoPart, L2.tUn]
    refine ⟨_, rfl, dq_from (k := 1) (W.same (Same.trans (Same.trans (Same.trans (Same.trans (Same.trans (Same.trans (Same.trans (T4) T8) T12) T16) T20) T23) T29) T32)).rv fun H36 v37 T38 D39 => ?_⟩
    have D24 := D24.same T38
    have D33 := D33.same T38
    have D35 := D35.same T38
    refine ⟨szl (by simp), fun q40 f40 => ?_⟩
    have D42 : Dq K 0 NZ (upd H36 q40 (.tup [bv, v37])) (.ref q40) (.tuple _) := dq_new f40 (.cons D35 (.cons D39 .nil))
    have T41 := sm (o := .tup [bv, v37]) f40
    generalize upd H36 q40 (.tup [bv, v37]) = H43 at D42 T41
    have D24 := D24.same T41
    have D33 := D33.same T41
    refine ⟨szl (by simp), fun fl ffl => ?_⟩
    have TF := sm (o := .lst [V.ref q22, V.ref q31, V.ref q40]) ffl
    have SBF := SB.trans (Same.trans (Same.trans (Same.trans (Same.trans (Same.trans (Same.trans (Same.trans (Same.trans (Same.trans (Same.trans (T4) T8) T12) T16) T20) T23) T29) T32) T38) T41) TF)
    have nfl : H fl = none := fresh_bk (SB.trans (Same.trans (Same.trans (Same.trans (Same.trans (Same.trans (Same.trans (Same.trans (Same.trans (Same.trans (T4) T8) T12) T16) T20) T23) T29) T32) T38) T41)) ffl
    have nol : ol ≠ fl := ne_of_none ho nfl
    have nxl : xl ≠ fl := ne_of_none hx nfl
    have WF := W.same (Same.trans (Same.trans (Same.trans (Same.trans (Same.trans (Same.trans (Same.trans (Same.trans (Same.trans (Same.trans (T4) T8) T12) T16) T20) T23) T29) T32) T38) T41) TF)
    have tf : SameT (upd H43 fl (.lst [V.ref q22, V.ref q31, V.ref q40])) (upd H43 fl (.lst [V.ref q22, V.ref q31, V.ref q40])) := fun _ _ => ⟨fun h => h, fun _ h => h⟩
    have lb2 := lb
    have ld2 := ld
    simp only [noLAll, Bool.and_eq_true] at lb2 ld2
    have W2 : BadA K (upd H43 fl (.lst [V.ref q22, V.ref q31, V.ref q40])) bv rv ol xl (.ref z1) (.ref z2) fl [V.ref q22, V.ref q31, V.ref q40] [b0, b1, b2] [r0, r1, r2, r3, r4] [nV fr, nV sy, nV ot] [nV z, nV x, nV y] z x [mkP [b0, b1, b2] [r2, r0, r1, r3, r4], mkP [b0, b1, b2] [r0, r1, r2, r3], mkP [b0, b1, b2] [r1, r2, r3, r4]] :=
      ⟨Dq.re tf _ _ lb WF.bv, Dq.re tf _ _ ld WF.rv, WF.ho, WF.hx, WF.wz, WF.wx, upd_same, .cons (Dq.re tf _ _ (by simp [mkP, noL, noLAll, lb2, ld2]) (D24.same TF)) (.cons (Dq.re tf _ _ (by simp [mkP, noL, noLAll, lb2, ld2]) (D33.same TF)) (.cons (Dq.re tf _ _ (by simp [mkP, noL, noLAll, lb2, ld2]) (D42.same TF)) .nil)), nol, nxl⟩
    have hul : ([V.ref q22, V.ref q31, V.ref q40] : List V).length = 3 := rfl
    generalize upd H43 fl (.lst [V.ref q22, V.ref q31, V.ref q40]) = G0 at W2 SBF
    generalize ([V.ref q22, V.ref q31, V.ref q40] : List V) = us0 at W2 hul
    clear W SB WF
    have W := W2
    have SB := SBF
    clear W2 SBF
    try dsimp only [L2.gName, List.set_cons_succ, List.set_cons_zero]
    refine ⟨_, rfl, .inl ⟨rfl, _, SqL.of W.hl⟩, ?_⟩
    refine ⟨_, rfl, ?_⟩
    have D1 := W.bv
    refine ⟨_, rfl, ?_⟩
    dsimp only [L2.tC, L2.tPart, L2.tNoPart, L2.tUn]
    refine ⟨_, rfl, dq_to (k := 3) W.rv fun H2 v3 T4 D5 => ?_⟩
    have D1 := D1.same T4
    refine ⟨_, rfl, ?_⟩
    dsimp only [L2.tC, L2.tPart, L2.tNoPart, L2.tUn]
    refine ⟨_, rfl, dq_from (k := 4) (W.same (T4)).rv fun H6 v7 T8 D9 => ?_⟩
    have D1 := D1.same T8
    have D5 := D5.same T8
    refine dq_cat D5 D9 (by simp) fun H10 v11 T12 D13 => ?_
    have D1 := D1.same T12
    refine ⟨szl (by simp), fun q14 f14 => ?_⟩
    have D16 : Dq K fl NZ (upd H10 q14 (.tup [bv, v11])) (.ref q14) (.tuple _) := dq_new f14 (.cons D1 (.cons D13 .nil))
    have T15 := sm (o := .tup [bv, v11]) f14
    generalize upd H10 q14 (.tup [bv, v11]) = H17 at D16 T15
    refine ⟨_, _, _, rfl, rfl, (W.same (Same.trans (Same.trans (Same.trans (T4) T8) T12) T15)).hl, szl1 (by rw [hul]; decide), ?_⟩
    have W2 := (W.same (Same.trans (Same.trans (Same.trans (T4) T8) T12) T15)).app D16
    have SW := (SB.trans (Same.trans (Same.trans (Same.trans (T4) T8) T12) T15)).own (o := .lst (us0 ++ [V.ref q14])) nfl
    have hul2 : (us0 ++ [V.ref q14]).length = 4 := by rw [List.length_append, hul]; rfl
    generalize upd H17 fl (.lst (us0 ++ [V.ref q14])) = G1 at W2 SW
    generalize us0 ++ [V.ref q14] = us1 at W2 hul2
    clear W SB hul T15 D16 f14 T12 D13 T8 D9 T4 D5 D1
    have W := W2
    have SB := SW
    have hul := hul2
    clear W2 SW hul2
    try dsimp only [L2.gName, List.set_cons_succ, List.set_cons_zero]
    refine ⟨_, rfl, .inl ⟨rfl, _, SqL.of W.hl⟩, ?_⟩
    refine ⟨_, rfl, ?_⟩
    have D1 := W.bv
    refine ⟨_, rfl, ?_⟩
    dsimp only [L2.tC, L2.tPart, L2.tNoPart, L2.tUn]
    refine ⟨_, rfl, dq_to (k := 4) W.rv fun H2 v3 T4 D5 => ?_⟩
    have D1 := D1.same T4
    refine ⟨_, rfl, ol, _, _, _, rfl, rfl, SqL.of (W.same (T4)).ho, atI_nat (j := 0) rfl, szl (by simp), fun q6 f6 => ?_⟩
    have D8 : Dq K fl NZ (upd H2 q6 (.tup [nV fr, V.int 0, V.int 3])) (.ref q6) (rw3D fr 0 3) := rw_new (x := fr) (y := 0) (z := 3) f6
    have T7 := sm (o := .tup [nV fr, V.int 0, V.int 3]) f6
    generalize upd H2 q6 (.tup [nV fr, V.int 0, V.int 3]) = H9 at D8 T7
    have D1 := D1.same T7
    have D5 := D5.same T7
    refine ⟨szl (by simp), fun q10 f10 => ?_⟩
    have D12 : Dq K fl NZ (upd H9 q10 (.tup [V.ref q6])) (.ref q10) (.tuple _) := dq_new f10 (.cons D8 .nil)
    have T11 := sm (o := .tup [V.ref q6]) f10
    generalize upd H9 q10 (.tup [V.ref q6]) = H13 at D12 T11
    have D1 := D1.same T11
    have D5 := D5.same T11
    refine dq_cat D5 D12 (by simp) fun H14 v15 T16 D17 => ?_
    have D1 := D1.same T16
    refine ⟨szl (by simp), fun q18 f18 => ?_⟩
    have D20 : Dq K fl NZ (upd H14 q18 (.tup [bv, v15])) (.ref q18) (.tuple _) := dq_new f18 (.cons D1 (.cons D17 .nil))
    have T19 := sm (o := .tup [bv, v15]) f18
    generalize upd H14 q18 (.tup [bv, v15]) = H21 at D20 T19
    refine ⟨_, _, _, rfl, rfl, (W.same (Same.trans (Same.trans (Same.trans (Same.trans (T4) T7) T11) T16) T19)).hl, szl1 (by rw [hul]; decide), ?_⟩
    have W2 := (W.same (Same.trans (Same.trans (Same.trans (Same.trans (T4) T7) T11) T16) T19)).app D20
    have SW := (SB.trans (Same.trans (Same.trans (Same.trans (Same.trans (T4) T7) T11) T16) T19)).own (o := .lst (us1 ++ [V.ref q18])) nfl
    have hul2 : (us1 ++ [V.ref q18]).length = 5 := by rw [List.length_append, hul]; rfl
    generalize upd H21 fl (.lst (us1 ++ [V.ref q18])) = G2 at W2 SW
    generalize us1 ++ [V.ref q18] = us2 at W2 hul2
    clear W SB hul T19 D20 f18 T16 D17 T11 D12 f10 T7 D8 f6 T4 D5 D1
    have W := W2
    have SB := SW
    have hul := hul2
    clear W2 SW hul2
    try dsimp only [L2.gName, List.set_cons_succ, List.set_cons_zero]
    refine ⟨_, rfl, .inl ⟨rfl, _, SqL.of W.hl⟩, ?_⟩
    refine ⟨_, rfl, ?_⟩
    have D1 := W.bv
    refine ⟨_, rfl, ?_⟩
    dsimp only [L2.tC, L2.tPart, L2.tNoPart, L2.tUn]
    refine ⟨_, rfl, dq_to (k := 4) W.rv fun H2 v3 T4 D5 => ?_⟩
    have D1 := D1.same T4
    refine ⟨_, rfl, ol, _, _, _, rfl, rfl, SqL.of (W.same (T4)).ho, atI_nat (j := 0) rfl, szl (by simp), fun q6 f6 => ?_⟩
    have D8 : Dq K fl NZ (upd H2 q6 (.tup [nV fr, V.int 0, V.int 1])) (.ref q6) (rw3D fr 0 1) := rw_new (x := fr) (y := 0) (z := 1) f6
    have T7 := sm (o := .tup [nV fr, V.int 0, V.int 1]) f6
    generalize upd H2 q6 (.tup [nV fr, V.int 0, V.int 1]) = H9 at D8 T7
    have D1 := D1.same T7
    have D5 := D5.same T7
    refine ⟨szl (by simp), fun q10 f10 => ?_⟩
    have D12 : Dq K fl NZ (upd H9 q10 (.tup [V.ref q6])) (.ref q10) (.tuple _) := dq_new f10 (.cons D8 .nil)
    have T11 := sm (o := .tup [V.ref q6]) f10
    generalize upd H9 q10 (.tup [V.ref q6]) = H13 at D12 T11
    have D1 := D1.same T11
    have D5 := D5.same T11
    refine dq_cat D5 D12 (by simp) fun H14 v15 T16 D17 => ?_
    have D1 := D1.same T16
    refine ⟨szl (by simp), fun q18 f18 => ?_⟩
    have D20 : Dq K fl NZ (upd H14 q18 (.tup [bv, v15])) (.ref q18) (.tuple _) := dq_new f18 (.cons D1 (.cons D17 .nil))
    have T19 := sm (o := .tup [bv, v15]) f18
    generalize upd H14 q18 (.tup [bv, v15]) = H21 at D20 T19
    refine ⟨_, _, _, rfl, rfl, (W.same (Same.trans (Same.trans (Same.trans (Same.trans (T4) T7) T11) T16) T19)).hl, szl1 (by rw [hul]; decide), ?_⟩
    have W2 := (W.same (Same.trans (Same.trans (Same.trans (Same.trans (T4) T7) T11) T16) T19)).app D20
    have SW := (SB.trans (Same.trans (Same.trans (Same.trans (Same.trans (T4) T7) T11) T16) T19)).own (o := .lst (us2 ++ [V.ref q18])) nfl
    have hul2 : (us2 ++ [V.ref q18]).length = 6 := by rw [List.length_append, hul]; rfl
    generalize upd H21 fl (.lst (us2 ++ [V.ref q18])) = G3 at W2 SW
    generalize us2 ++ [V.ref q18] = us3 at W2 hul2
    clear W SB hul T19 D20 f18 T16 D17 T11 D12 f10 T7 D8 f6 T4 D5 D1
    have W := W2
    have SB := SW
    have hul := hul2
    clear W2 SW hul2
    try dsimp only [L2.gName, List.set_cons_succ, List.set_cons_zero]
    refine ⟨_, rfl, .inl ⟨rfl, _, SqL.of W.hl⟩, ?_⟩
    refine ⟨_, rfl, ?_⟩
    have D1 := W.bv
    refine ⟨_, rfl, ?_⟩
    have D2 := W.rv
    refine ⟨_, rfl, ol, _, _, _, rfl, rfl, SqL.of W.ho, atI_nat (j := 1) rfl, szl (by simp), fun q3 f3 => ?_⟩
    have D5 : Dq K fl NZ (upd G3 q3 (.tup [nV sy, V.int 0, V.int 2])) (.ref q3) (rw3D sy 0 2) := rw_new (x := sy) (y := 0) (z := 2) f3
    have T4 := sm (o := .tup [nV sy, V.int 0, V.int 2]) f3
    generalize upd G3 q3 (.tup [nV sy, V.int 0, V.int 2]) = H6 at D5 T4
    have D1 := D1.same T4
    have D2 := D2.same T4
    refine ⟨szl (by simp), fun q7 f7 => ?_⟩
    have D9 : Dq K fl NZ (upd H6 q7 (.tup [V.ref q3])) (.ref q7) (.tuple _) := dq_new f7 (.cons D5 .nil)
    have T8 := sm (o := .tup [V.ref q3]) f7
    generalize upd H6 q7 (.tup [V.ref q3]) = H10 at D9 T8
    have D1 := D1.same T8
    have D2 := D2.same T8
    refine dq_cat D2 D9 (by simp) fun H11 v12 T13 D14 => ?_
    have D1 := D1.same T13
    refine ⟨szl (by simp), fun q15 f15 => ?_⟩
    have D17 : Dq K fl NZ (upd H11 q15 (.tup [bv, v12])) (.ref q15) (.tuple _) := dq_new f15 (.cons D1 (.cons D14 .nil))
    have T16 := sm (o := .tup [bv, v12]) f15
    generalize upd H11 q15 (.tup [bv, v12]) = H18 at D17 T16
    refine ⟨_, _, _, rfl, rfl, (W.same (Same.trans (Same.trans (Same.trans (T4) T8) T13) T16)).hl, szl1 (by rw [hul]; decide), ?_⟩
    have W2 := (W.same (Same.trans (Same.trans (Same.trans (T4) T8) T13) T16)).app D17
    have SW := (SB.trans (Same.trans (Same.trans (Same.trans (T4) T8) T13) T16)).own (o := .lst (us3 ++ [V.ref q15])) nfl
    have hul2 : (us3 ++ [V.ref q15]).length = 7 := by rw [List.length_append, hul]; rfl
    generalize upd H18 fl (.lst (us3 ++ [V.ref q15])) = G4 at W2 SW
    generalize us3 ++ [V.ref q15] = us4 at W2 hul2
    clear W SB hul T16 D17 f15 T13 D14 T8 D9 f7 T4 D5 f3 D2 D1
    have W := W2
    have SB := SW
    have hul := hul2
    clear W2 SW hul2
    try dsimp only [L2.gName, List.set_cons_succ, List.set_cons_zero]
    refine ⟨_, rfl, .inl ⟨rfl, _, SqL.of W.hl⟩, ?_⟩
    refine ⟨_, rfl, ?_⟩
    dsimp only [L2.tC, L2.tPart, L2.tNoPart, L2.tUn]
    refine dq_item (i := 0) W.bv rfl fun v1 D2 => ?_
    refine ⟨_, rfl, ?_⟩
    dsimp only [L2.tC, L2.tPart, L2.tNoPart, L2.tUn]
    refine dq_item (i := 1) W.bv rfl fun v3 D4 => ?_
    refine ⟨_, rfl, ?_⟩
    have D5 : Dq K fl NZ _ _ (wD _) := W.wz.dq
    refine ⟨_, rfl, ?_⟩
    have D6 : Dq K fl NZ _ _ (wD _) := W.wx.dq
    refine ⟨_, rfl, xl, _, _, _, rfl, rfl, SqL.of W.hx, atI_nat (j := 2) rfl, szl (by simp), fun q7 f7 => ?_⟩
    have D9 : Dq K fl NZ (upd G4 q7 (.tup [nV y])) (.ref q7) (wD [y]) := dq_new f7 (.cons (.int _) .nil)
    have T8 := sm (o := .tup [nV y]) f7
    generalize upd G4 q7 (.tup [nV y]) = H10 at D9 T8
    have D2 := D2.same T8
    have D4 := D4.same T8
    have D5 := D5.same T8
    have D6 := D6.same T8
    refine ⟨szl (by simp), fun q11 f11 => ?_⟩
    have D13 : Dq K fl NZ (upd H10 q11 (.tup [V.ref z1, V.ref z2, V.ref q7])) (.ref q11) (.tuple _) := dq_new f11 (.cons D5 (.cons D6 (.cons D9 .nil)))
    have T12 := sm (o := .tup [V.ref z1, V.ref z2, V.ref q7]) f11
    generalize upd H10 q11 (.tup [V.ref z1, V.ref z2, V.ref q7]) = H14 at D13 T12
    have D2 := D2.same T12
    have D4 := D4.same T12
    refine ⟨szl (by simp), fun q15 f15 => ?_⟩
    have D17 : Dq K fl NZ (upd H14 q15 (.tup [v1, v3, V.ref q11])) (.ref q15) (.tuple _) := dq_new f15 (.cons D2 (.cons D4 (.cons D13 .nil)))
    have T16 := sm (o := .tup [v1, v3, V.ref q11]) f15
    generalize upd H14 q15 (.tup [v1, v3, V.ref q11]) = H18 at D17 T16
    refine ⟨_, rfl, ?_⟩
    have D19 := (W.same (Same.trans (Same.trans (T8) T12) T16)).rv
    refine ⟨szl (by simp), fun q20 f20 => ?_⟩
    have D22 : Dq K fl NZ (upd H18 q20 (.tup [V.ref q15, rv])) (.ref q20) (.tuple _) := dq_new f20 (.cons D17 (.cons D19 .nil))
    have T21 := sm (o := .tup [V.ref q15, rv]) f20
    generalize upd H18 q20 (.tup [V.ref q15, rv]) = H23 at D22 T21
    refine ⟨_, _, _, rfl, rfl, (W.same (Same.trans (Same.trans (Same.trans (T8) T12) T16) T21)).hl, szl1 (by rw [hul]; decide), ?_⟩
    have W2 := (W.same (Same.trans (Same.trans (Same.trans (T8) T12) T16) T21)).app D22
    have SW := (SB.trans (Same.trans (Same.trans (Same.trans (T8) T12) T16) T21)).own (o := .lst (us4 ++ [V.ref q20])) nfl
    have hul2 : (us4 ++ [V.ref q20]).length = 8 := by rw [List.length_append, hul]; rfl
    generalize upd H23 fl (.lst (us4 ++ [V.ref q20])) = G5 at W2 SW
    generalize us4 ++ [V.ref q20] = us5 at W2 hul2
    clear W SB hul T21 D22 f20 D19 T16 D17 f15 T12 D13 f11 T8 D9 f7 D6 D5 D4 D2
    have W := W2
    have SB := SW
    have hul := hul2
    clear W2 SW hul2
    try dsimp only [L2.gName, List.set_cons_succ, List.set_cons_zero]
    refine ⟨_, rfl, .inl ⟨rfl, _, SqL.of W.hl⟩, ?_⟩
    refine ⟨_, rfl, ?_⟩
    have D1 : Dq K fl NZ _ _ (wD _) := W.wz.dq
    refine ⟨szl (by simp), fun q2 f2 => ?_⟩
    have D4 : Dq K fl NZ (upd G5 q2 (.tup [])) (.ref q2) (wD []) := dq_new f2 .nil
    have T3 := sm (o := .tup []) f2
    generalize upd G5 q2 (.tup []) = H5 at D4 T3
    have D1 := D1.same T3
    refine ⟨szl (by simp), fun q6 f6 => ?_⟩
    have D8 : Dq K fl NZ (upd H5 q6 (.tup [])) (.ref q6) (wD []) := dq_new f6 .nil
    have T7 := sm (o := .tup []) f6
    generalize upd H5 q6 (.tup []) = H9 at D8 T7
    have D1 := D1.same T7
    have D4 := D4.same T7
    refine ⟨szl (by simp), fun q10 f10 => ?_⟩
    have D12 : Dq K fl NZ (upd H9 q10 (.tup [V.ref z1, V.ref q2, V.ref q6])) (.ref q10) (.tuple _) := dq_new f10 (.cons D1 (.cons D4 (.cons D8 .nil)))
    have T11 := sm (o := .tup [V.ref z1, V.ref q2, V.ref q6]) f10
    generalize upd H9 q10 (.tup [V.ref z1, V.ref q2, V.ref q6]) = H13 at D12 T11
    refine ⟨szl (by simp), fun q14 f14 => ?_⟩
    have D16 : Dq K fl NZ (upd H13 q14 (.tup [V.ref q10])) (.ref q14) (.tuple _) := dq_new f14 (.cons D12 .nil)
    have T15 := sm (o := .tup [V.ref q10]) f14
    generalize upd H13 q14 (.tup [V.ref q10]) = H17 at D16 T15
    refine ⟨_, rfl, ?_⟩
    dsimp only [L2.tC, L2.tPart, L2.tNoPart, L2.tUn]
    refine ⟨_, rfl, dq_from (k := 1) (W.same (Same.trans (Same.trans (Same.trans (T3) T7) T11) T15)).bv fun H18 v19 T20 D21 => ?_⟩
    have D16 := D16.same T20
    refine dq_cat D16 D21 (by simp) fun H22 v23 T24 D25 => ?_
    refine ⟨_, rfl, ?_⟩
    have D26 := (W.same (Same.trans (Same.trans (Same.trans (Same.trans (Same.trans (T3) T7) T11) T15) T20) T24)).rv
    refine ⟨szl (by simp), fun q27 f27 => ?_⟩
    have D29 : Dq K fl NZ (upd H22 q27 (.tup [v23, rv])) (.ref q27) (.tuple _) := dq_new f27 (.cons D25 (.cons D26 .nil))
    have T28 := sm (o := .tup [v23, rv]) f27
    generalize upd H22 q27 (.tup [v23, rv]) = H30 at D29 T28
    refine ⟨_, _, _, rfl, rfl, (W.same (Same.trans (Same.trans (Same.trans (Same.trans (Same.trans (Same.trans (T3) T7) T11) T15) T20) T24) T28)).hl, szl1 (by rw [hul]; decide), ?_⟩
    have W2 := (W.same (Same.trans (Same.trans (Same.trans (Same.trans (Same.trans (Same.trans (T3) T7) T11) T15) T20) T24) T28)).app D29
    have SW := (SB.trans (Same.trans (Same.trans (Same.trans (Same.trans (Same.trans (Same.trans (T3) T7) T11) T15) T20) T24) T28)).own (o := .lst (us5 ++ [V.ref q27])) nfl
    have hul2 : (us5 ++ [V.ref q27]).length = 9 := by rw [List.length_append, hul]; rfl
    generalize upd H30 fl (.lst (us5 ++ [V.ref q27])) = G6 at W2 SW
    generalize us5 ++ [V.ref q27] = us6 at W2 hul2
    clear W SB hul T28 D29 f27 D26 T24 D25 T20 D21 T15 D16 f14 T11 D12 f10 T7 D8 f6 T3 D4 f2 D1
    have W := W2
    have SB := SW
    have hul := hul2
    clear W2 SW hul2
    try dsimp only [L2.gName, List.set_cons_succ, List.set_cons_zero]
    refine ⟨_, rfl, .inl ⟨rfl, _, SqL.of W.hl⟩, ?_⟩
    refine ⟨_, rfl, ?_⟩
    have D1 : Dq K fl NZ _ _ (wD _) := W.wz.dq
    refine ⟨_, rfl, ?_⟩
    have D2 : Dq K fl NZ _ _ (wD _) := W.wz.dq
    refine ⟨_, rfl, ?_⟩
    have D3 : Dq K fl NZ _ _ (wD _) := W.wx.dq
    refine ⟨szl (by simp), fun q4 f4 => ?_⟩
    have D6 : Dq K fl NZ (upd G6 q4 (.tup [V.ref z1, V.ref z1, V.ref z2])) (.ref q4) (.tuple _) := dq_new f4 (.cons D1 (.cons D2 (.cons D3 .nil)))
    have T5 := sm (o := .tup [V.ref z1, V.ref z1, V.ref z2]) f4
    generalize upd G6 q4 (.tup [V.ref z1, V.ref z1, V.ref z2]) = H7 at D6 T5
    refine ⟨szl (by simp), fun q8 f8 => ?_⟩
    have D10 : Dq K fl NZ (upd H7 q8 (.tup [V.ref q4])) (.ref q8) (.tuple _) := dq_new f8 (.cons D6 .nil)
    have T9 := sm (o := .tup [V.ref q4]) f8
    generalize upd H7 q8 (.tup [V.ref q4]) = H11 at D10 T9
    refine ⟨_, rfl, ?_⟩
    dsimp only [L2.tC, L2.tPart, L2.tNoPart, L2.tUn]
    refine ⟨_, rfl, dq_from (k := 1) (W.same (Same.trans (T5) T9)).bv fun H12 v13 T14 D15 => ?_⟩
    have D10 := D10.same T14
    refine dq_cat D10 D15 (by simp) fun H16 v17 T18 D19 => ?_
    refine ⟨_, rfl, ?_⟩
    have D20 := (W.same (Same.trans (Same.trans (Same.trans (T5) T9) T14) T18)).rv
    refine ⟨szl (by simp), fun q21 f21 => ?_⟩
    have D23 : Dq K fl NZ (upd H16 q21 (.tup [v17, rv])) (.ref q21) (.tuple _) := dq_new f21 (.cons D19 (.cons D20 .nil))
    have T22 := sm (o := .tup [v17, rv]) f21
    generalize upd H16 q21 (.tup [v17, rv]) = H24 at D23 T22
    refine ⟨_, _, _, rfl, rfl, (W.same (Same.trans (Same.trans (Same.trans (Same.trans (T5) T9) T14) T18) T22)).hl, szl1 (by rw [hul]; decide), ?_⟩
    have W2 := (W.same (Same.trans (Same.trans (Same.trans (Same.trans (T5) T9) T14) T18) T22)).app D23
    have SW := (SB.trans (Same.trans (Same.trans (Same.trans (Same.trans (T5) T9) T14) T18) T22)).own (o := .lst (us6 ++ [V.ref q21])) nfl
    have hul2 : (us6 ++ [V.ref q21]).length = 10 := by rw [List.length_append, hul]; rfl
    generalize upd H24 fl (.lst (us6 ++ [V.ref q21])) = G7 at W2 SW
    generalize us6 ++ [V.ref q21] = us7 at W2 hul2
    clear W SB hul T22 D23 f21 D20 T18 D19 T14 D15 T9 D10 f8 T5 D6 f4 D3 D2 D1
    have W := W2
    have SB := SW
    have hul := hul2
    clear W2 SW hul2
    try dsimp only [L2.gName, List.set_cons_succ, List.set_cons_zero]
    refine ⟨_, rfl, .inl ⟨rfl, _, SqL.of W.hl⟩, ?_⟩
    refine ⟨_, rfl, ?_⟩
    dsimp only [L2.tC, L2.tPart, L2.tNoPart, L2.tUn]
    refine ⟨_, rfl, dq_to (k := 1) W.bv fun H1 v2 T3 D4 => ?_⟩
    refine ⟨_, rfl, ?_⟩
    dsimp only [L2.tC, L2.tPart, L2.tNoPart, L2.tUn]
    refine ⟨_, rfl, dq_from (k := 2) (W.same (T3)).bv fun H5 v6 T7 D8 => ?_⟩
    have D4 := D4.same T7
    refine dq_cat D4 D8 (by simp) fun H9 v10 T11 D12 => ?_
    refine ⟨_, rfl, ?_⟩
    dsimp only [L2.tC, L2.tPart, L2.tNoPart, L2.tUn]
    refine ⟨_, rfl, _, rfl, dq_mid (a := 1) (b := 2) (by simp) (W.same (Same.trans (Same.trans (T3) T7) T11)).bv fun H13 v14 T15 D16 => ?_⟩
    have D12 := D12.same T15
    refine dq_cat D12 D16 (by simp) fun H17 v18 T19 D20 => ?_
    refine ⟨_, rfl, ?_⟩
    have D21 := (W.same (Same.trans (Same.trans (Same.trans (Same.trans (T3) T7) T11) T15) T19)).rv
    refine ⟨szl (by simp), fun q22 f22 => ?_⟩
    have D24 : Dq K fl NZ (upd H17 q22 (.tup [v18, rv])) (.ref q22) (.tuple _) := dq_new f22 (.cons D20 (.cons D21 .nil))
    have T23 := sm (o := .tup [v18, rv]) f22
    generalize upd H17 q22 (.tup [v18, rv]) = H25 at D24 T23
    refine ⟨_, _, _, rfl, rfl, (W.same (Same.trans (Same.trans (Same.trans (Same.trans (Same.trans (T3) T7) T11) T15) T19) T23)).hl, szl1 (by rw [hul]; decide), ?_⟩
    have W2 := (W.same (Same.trans (Same.trans (Same.trans (Same.trans (Same.trans (T3) T7) T11) T15) T19) T23)).app D24
    have SW := (SB.trans (Same.trans (Same.trans (Same.trans (Same.trans (Same.trans (T3) T7) T11) T15) T19) T23)).own (o := .lst (us7 ++ [V.ref q22])) nfl
    have hul2 : (us7 ++ [V.ref q22]).length = 11 := by rw [List.length_append, hul]; rfl
    generalize upd H25 fl (.lst (us7 ++ [V.ref q22])) = G8 at W2 SW
    generalize us7 ++ [V.ref q22] = us8 at W2 hul2
    clear W SB hul T23 D24 f22 D21 T19 D20 T15 D16 T11 D12 T7 D8 T3 D4
    have W := W2
    have SB := SW
    have hul := hul2
    clear W2 SW hul2
    try dsimp only [L2.gName, List.set_cons_succ, List.set_cons_zero]
    have hbv := W.bv
    have hrv := W.rv
    obtain ⟨ba, bxs, rfl, hbT, hbA⟩ : ∃ a xs, bv = .ref a ∧ SqT K G8 a xs ∧ DqAll K fl NZ G8 xs [b0, b1, b2] := by
      cases hbv with
      | tup h1 h2 => exact ⟨_, _, rfl, h1, h2⟩
    obtain ⟨ra, rxs, rfl, hrT, hrA⟩ : ∃ a xs, rv = .ref a ∧ SqT K G8 a xs ∧ DqAll K fl NZ G8 xs [r0, r1, r2, r3, r4] := by
      cases hrv with
      | tup h1 h2 => exact ⟨_, _, rfl, h1, h2⟩
    refine ⟨_, rfl, _, rfl, ?_⟩
    dsimp only [L2.tC, L2.tPart, L2.tNoPart, L2.tUn]
    refine ⟨_, rfl, dq_to (k := 2) W.bv fun H2 v2 T2 D2 => ?_⟩
    refine ⟨_, rfl, szl (by simp), fun q3 f3 => ?_⟩
    have T3 := sm (o := .tup [v2, V.ref ra]) f3
    have D3 : Dq K fl NZ (upd H2 q3 (.tup [v2, V.ref ra])) (.ref q3) (mkP [b0, b1] [r0, r1, r2, r3, r4]) := mk_pap f3 D2 (W.rv.same T2)
    have T := T2.trans T3
    generalize upd H2 q3 (.tup [v2, V.ref ra]) = H3 at D3 T
    clear T2 T3 f3 D2
    refine ⟨_, rfl, _, rfl, szl (by simp), fun q4 f4 => ?_⟩
    have T4 := sm (o := .tup [V.ref ra, V.ref ba]) f4
    have D4 : Dq K fl NZ (upd H3 q4 (.tup [V.ref ra, V.ref ba])) (.ref q4) (mkP [r0, r1, r2, r3, r4] [b0, b1, b2]) := mk_pap f4 (W.rv.same T) (W.bv.same T)
    have D3 := D3.same T4
    have T := T.trans T4
    generalize upd H3 q4 (.tup [V.ref ra, V.ref ba]) = H4 at D3 D4 T
    clear T4 f4
    have nf : ∀ {H' : Hp} {a : Addr}, Same G8 H' → H' a = none → a ≠ fl := fun S e z => by
      subst z
      have := S _ _ W.hl
      rw [e] at this; cases this
    refine ⟨_, rfl, ba, bxs, rfl, .inr ((Same.t T).seq hbT), fun l5 f5 => ?_⟩
    have n5 := nf T f5
    have T5 := sm (o := .lst bxs) f5
    have D5 : Dq K fl NZ (upd H4 l5 (.lst bxs)) (.ref l5) (.list [b0, b1, b2]) := .lst ⟨n5, id⟩ (SqL.of upd_same) (hbA.same (T.trans T5))
    have D3 := D3.same T5
    have D4 := D4.same T5
    have T := T.trans T5
    generalize upd H4 l5 (.lst bxs) = H5 at D3 D4 D5 T
    clear T5 f5
    refine ⟨_, rfl, szl (by simp), fun q6 f6 => ?_⟩
    have T6 := sm (o := .tup [V.ref l5, V.ref ra]) f6
    have D6 : Dq K fl NZ (upd H5 q6 (.tup [V.ref l5, V.ref ra])) (.ref q6) (.tuple [.list [b0, b1, b2], .tuple [r0, r1, r2, r3, r4]]) := dq_new f6 (.cons D5 (.cons (W.rv.same T) .nil))
    have D3 := D3.same T6
    have D4 := D4.same T6
    have T := T.trans T6
    generalize upd H5 q6 (.tup [V.ref l5, V.ref ra]) = H6 at D3 D4 D6 T
    clear T6 f6 D5
    refine ⟨_, rfl, _, rfl, ra, rxs, rfl, .inr ((Same.t T).seq hrT), fun l7 f7 => ?_⟩
    have n7 := nf T f7
    have T7 := sm (o := .lst rxs) f7
    have D7 : Dq K fl NZ (upd H6 l7 (.lst rxs)) (.ref l7) (.list [r0, r1, r2, r3, r4]) := .lst ⟨n7, id⟩ (SqL.of upd_same) (hrA.same (T.trans T7))
    have D3 := D3.same T7
    have D4 := D4.same T7
    have D6 := D6.same T7
    have T := T.trans T7
    generalize upd H6 l7 (.lst rxs) = H7 at D3 D4 D6 D7 T
    clear T7 f7
    refine ⟨szl (by simp), fun q8 f8 => ?_⟩
    have T8 := sm (o := .tup [V.ref ba, V.ref l7]) f8
    have D8 : Dq K fl NZ (upd H7 q8 (.tup [V.ref ba, V.ref l7])) (.ref q8) (.tuple [.tuple [b0, b1, b2], .list [r0, r1, r2, r3, r4]]) := dq_new f8 (.cons (W.bv.same T) (.cons D7 .nil))
    have D3 := D3.same T8
    have D4 := D4.same T8
    have D6 := D6.same T8
    have T := T.trans T8
    generalize upd H7 q8 (.tup [V.ref ba, V.ref l7]) = H8 at D3 D4 D6 D8 T
    clear T8 f8 D7
    refine ⟨szl (by simp), fun g9 f9 => ?_⟩
    have T9 := sm (o := .lst [V.ref q3, V.ref q4, V.ref q6, V.ref q8]) f9
    have T' := T.trans T9
    refine ⟨fl, g9, _, _, rfl, rfl, T' _ _ W.hl, upd_same, Nat.le_trans (show us8.length + 4 ≤ 1000 by rw [hul]; decide) (by decide), fun gl fgl => ?_⟩
    have T10 := sm (o := .lst (us8 ++ [V.ref q3, V.ref q4, V.ref q6, V.ref q8])) fgl
    have TE := T9.trans T10
    refine k _ fl gl _ (SB.trans (T.trans TE)) upd_same ?_
    refine paired_append (paired_map W.pr fun _ _ z => z.same (T.trans TE)) (.cons (D3.same TE) (.cons (D4.same TE) (.cons (D6.same TE) (.cons (D8.same TE) .nil))))
end
end LA

set_option maxHeartbeats 4000000
namespace LA
open PySem PySem.Spec PyProof.Rows L2
open C8 (Cal pe_c)
section
variable {P : Program} {w : World} {K : PySem.W.Frag} {mg : Str → Option Value} {base : Heap}
abbrev s_many_rows_right : Stmt := topS 28
abbrev N_many_rows_right : List Str := ["_law_pot_here", "_law_plant", "_law_many", "_law_blocks", "_law_rows", "_law_told"]
theorem sc_many_rows_right : FnScope N_many_rows_right ["_law_pot_here"] (defScope s_many_rows_right) := ⟨rfl, rfl, rfl, by decide +kernel, rfl, by decide +kernel, by decide +kernel⟩
theorem ok_many_rows_right {f : Addr} {fd : FuncData} (F : Fun K "_law_many_rows_right" "_law_many_rows_right" s_many_rows_right f fd) (T : Bt mg) (c_take : Cal P w K mg base 1 "_law_take" spTake []) (c_shows_certificate : Cal P w K mg base 5 "shows_certificate" (spShowsCrt K) []) : FnOk P w K mg base CX0 6 f fd ["_law_pot_here"] (spMany56 K) := by
  refine F.ok sc_many_rows_right (fun vs H Q E h => ?_) (fun cdv A outer s H vs Q E hr h => ?_)
  · obtain ⟨p, n, rfl, _⟩ := h
    rfl
  · obtain ⟨p, n, rfl, hP, hn, k⟩ := h
    have hu64 := hr.units
    refine ⟨_, (pss_cons (ps_par (i := 1) (j := 2) rfl sc_many_rows_right.nd rfl rfl (by decide) rfl rfl (pa_cons (pe_tup (pa_cons (pe_tup (pa_cons (pe_tup (pa_cons pe_non pa_nil)) (pa_cons (pe_tup (pa_cons pe_int pa_nil)) pa_nil))) pa_nil)) (pa_cons (pe_op op_add pe_int (pe_c c_take hr (by decide) rfl (pa_cons (pv 0) (pa_cons pe_int pa_nil)))) pa_nil)) rfl)
(pss_cons (ps_par (i := 3) (j := 4) rfl sc_many_rows_right.nd rfl rfl (by decide) rfl rfl (pa_cons (pe_tup (pa_cons (pe_tup (pa_cons (pe_tup (pa_cons pe_int pa_nil)) (pa_cons (pe_tup (pa_cons pe_int pa_nil)) (pa_cons (pe_tup pa_nil) pa_nil)))) (pa_cons (pe_tup (pa_cons (pe_tup (pa_cons pe_int pa_nil)) (pa_cons (pe_tup (pa_cons pe_int pa_nil)) (pa_cons (pe_tup pa_nil) pa_nil)))) pa_nil))) (pa_cons (pe_op (repAK K) (pe_tup (pa_cons (pe_tup (pa_cons pe_int (pa_cons pe_int (pa_cons pe_int pa_nil)))) pa_nil)) (pv 2)) pa_nil)) rfl)
(pss_cons (ps_set (i := 5) sc_many_rows_right.nd rfl (Or.inl rfl) (pe_lst (pa_cons (pe_c c_shows_certificate hr (by decide) rfl (pa_cons (pv 1) (pa_cons (pe_tup (pa_cons (pv 3) (pa_cons (pe_op (catK K) (pv 4) (pe_tup (pa_cons (pe_tup (pa_cons pe_int (pa_cons pe_int (pa_cons pe_int pa_nil)))) pa_nil))) pa_nil))) pa_nil))) (pa_cons (pe_c c_shows_certificate hr (by decide) rfl (pa_cons (pv 1) (pa_cons (pe_tup (pa_cons (pv 3) (pa_cons (pv 4) pa_nil))) pa_nil))) pa_nil))))
(pss_one (ps_ret (pe_and (pe_cmpR (op_eqD hu64) (pv 5) (pe_lst (pa_cons pe_bl (pa_cons pe_bl pa_nil))) (nomark _)) (pe_one (pe_cmpR op_isBl (pe_c c_shows_certificate hr (by decide) rfl (pa_cons (pv 1) (pa_cons (pe_tup (pa_cons (pv 3) (pa_cons (pe_op (catK K) (pe_op (catK K) (pv 4) (pe_tup (pa_cons (pe_tup (pa_cons pe_int (pa_cons pe_int (pa_cons pe_int pa_nil)))) pa_nil))) (pv 4)) pa_nil))) pa_nil))) pe_bl (nomark _))))))))), ?_⟩
    rw [show L2.start N_many_rows_right [V.ref p] = [some (.ref p), none, none, none, none, none] from rfl]
    refine ⟨szl (by simp), fun a1 f1 => ⟨szl (by simp), fun a2 f2 => ⟨szl (by simp), fun a3 f3 => ⟨szl (by simp), fun a4 f4 => ?_⟩⟩⟩⟩
    have T1 := sm (o := .tup [V.non]) f1
    have T2 := sm (o := .tup [V.int 0]) f2
    have T3 := sm (o := .tup [V.ref a1, V.ref a2]) f3
    have T4 := sm (o := .tup [V.ref a3]) f4
    have J : JAt K (upd (upd (upd (upd H a1 (.tup [V.non])) a2 (.tup [V.int 0])) a3 (.tup [V.ref a1, V.ref a2])) a4 (.tup [V.ref a3])) (.ref a4) one56 :=
      ⟨a4, _, rfl, SqT.of upd_same, .cons ⟨a3, _, rfl, (Same.t T4).seq (SqT.of upd_same), .cons ⟨a1, rfl, (Same.t (T2.trans (T3.trans T4))).seq (SqT.of upd_same)⟩ (.cons ⟨a2, rfl, (Same.t (T3.trans T4)).seq (SqT.of upd_same)⟩ .nil)⟩ .nil⟩
    have S4 := T1.trans (T2.trans (T3.trans T4))
    have P4 := hP.same S4
    generalize upd (upd (upd (upd H a1 (.tup [V.non])) a2 (.tup [V.int 0])) a3 (.tup [V.ref a1, V.ref a2])) a4 (.tup [V.ref a3]) = H4 at J S4 P4
    clear T1 T2 T3 T4 f1 f2 f3 f4
    refine ⟨_, rfl, p, 400, _, rfl, by decide, by decide, P4, by omega, fun H5 m s5 P5 hm => ?_⟩
    refine ⟨_, _, rfl, rfl, ?_⟩
    have J5 := J.t (P4.t s5)
    have X5 : SameX p H H5 := (Same.x S4).trans s5
    have em : (400 : Int) + (m : Int) = ((400 + m : Nat) : Int) := by omega
    obtain ⟨mm, emm⟩ : ∃ mm, mm = 400 + m := ⟨_, rfl⟩
    rw [← emm] at em
    have hm1 : 1 ≤ mm ∧ mm ≤ 800 := by omega
    refine ⟨_, _, rfl, ?_⟩
    try dsimp only [L2.gName, List.set_cons_succ, List.set_cons_zero]
    rw [em]
    clear S4 J s5
    have hwB : ∀ r ∈ List.replicate mm ((0, 0, 0) : Rw3), r.1 < 4 ∧ r.2.1 < 4 ∧ r.2.2 < 4 := fun r hr => by rw [List.eq_of_mem_replicate hr]; decide
    have hwA : ∀ l : List Rw3, (∀ r ∈ l, r.1 < 4 ∧ r.2.1 < 4 ∧ r.2.2 < 4) → ∀ r ∈ List.replicate mm ((0, 0, 0) : Rw3) ++ l, r.1 < 4 ∧ r.2.1 < 4 ∧ r.2.2 < 4 := fun l hl r hr => (List.mem_append.mp hr).elim (hwB r) (hl r)
    refine ⟨szl (by simp), fun q1 f1 => ?_⟩
    have T1 := sm (o := .tup [V.int 0]) f1
    have D1 : Dq K 0 NZ (upd H5 q1 (.tup [V.int 0])) (.ref q1) (.tuple [.int 0]) := dq_new f1 (.cons (.int 0) .nil)
    generalize upd H5 q1 (.tup [V.int 0]) = M1 at T1 D1
    refine ⟨szl (by simp), fun q2 f2 => ?_⟩
    have T2 := sm (o := .tup [V.int 0]) f2
    have D2 : Dq K 0 NZ (upd M1 q2 (.tup [V.int 0])) (.ref q2) (.tuple [.int 0]) := dq_new f2 (.cons (.int 0) .nil)
    generalize upd M1 q2 (.tup [V.int 0]) = M2 at T2 D2
    have D1 := D1.same T2
    refine ⟨szl (by simp), fun q3 f3 => ?_⟩
    have T3 := sm (o := .tup []) f3
    have D3 : Dq K 0 NZ (upd M2 q3 (.tup [])) (.ref q3) (.tuple []) := dq_new f3 .nil
    generalize upd M2 q3 (.tup []) = M3 at T3 D3
    have D1 := D1.same T3
    have D2 := D2.same T3
    refine ⟨szl (by simp), fun q4 f4 => ?_⟩
    have T4 := sm (o := .tup [V.ref q1, V.ref q2, V.ref q3]) f4
    have D4 : Dq K 0 NZ (upd M3 q4 (.tup [V.ref q1, V.ref q2, V.ref q3])) (.ref q4) (.tuple [.tuple [.int 0], .tuple [.int 0], .tuple []]) := dq_new f4 (.cons D1 (.cons D2 (.cons D3 .nil)))
    generalize upd M3 q4 (.tup [V.ref q1, V.ref q2, V.ref q3]) = M4 at T4 D4
    refine ⟨szl (by simp), fun q5 f5 => ?_⟩
    have T5 := sm (o := .tup [V.int 1]) f5
    have D5 : Dq K 0 NZ (upd M4 q5 (.tup [V.int 1])) (.ref q5) (.tuple [.int 1]) := dq_new f5 (.cons (.int 1) .nil)
    generalize upd M4 q5 (.tup [V.int 1]) = M5 at T5 D5
    have D4 := D4.same T5
    refine ⟨szl (by simp), fun q6 f6 => ?_⟩
    have T6 := sm (o := .tup [V.int 1]) f6
    have D6 : Dq K 0 NZ (upd M5 q6 (.tup [V.int 1])) (.ref q6) (.tuple [.int 1]) := dq_new f6 (.cons (.int 1) .nil)
    generalize upd M5 q6 (.tup [V.int 1]) = M6 at T6 D6
    have D4 := D4.same T6
    have D5 := D5.same T6
    refine ⟨szl (by simp), fun q7 f7 => ?_⟩
    have T7 := sm (o := .tup []) f7
    have D7 : Dq K 0 NZ (upd M6 q7 (.tup [])) (.ref q7) (.tuple []) := dq_new f7 .nil
    generalize upd M6 q7 (.tup []) = M7 at T7 D7
    have D4 := D4.same T7
    have D5 := D5.same T7
    have D6 := D6.same T7
    refine ⟨szl (by simp), fun q8 f8 => ?_⟩
    have T8 := sm (o := .tup [V.ref q5, V.ref q6, V.ref q7]) f8
    have D8 : Dq K 0 NZ (upd M7 q8 (.tup [V.ref q5, V.ref q6, V.ref q7])) (.ref q8) (.tuple [.tuple [.int 1], .tuple [.int 1], .tuple []]) := dq_new f8 (.cons D5 (.cons D6 (.cons D7 .nil)))
    generalize upd M7 q8 (.tup [V.ref q5, V.ref q6, V.ref q7]) = M8 at T8 D8
    have D4 := D4.same T8
    refine ⟨szl (by simp), fun q9 f9 => ?_⟩
    have T9 := sm (o := .tup [V.ref q4, V.ref q8]) f9
    have D9 : Dq K 0 NZ (upd M8 q9 (.tup [V.ref q4, V.ref q8])) (.ref q9) (.tuple [.tuple [.tuple [.int 0], .tuple [.int 0], .tuple []], .tuple [.tuple [.int 1], .tuple [.int 1], .tuple []]]) := dq_new f9 (.cons D4 (.cons D8 .nil))
    generalize upd M8 q9 (.tup [V.ref q4, V.ref q8]) = M9 at T9 D9
    refine ⟨szl (by simp), fun q10 f10 => ?_⟩
    have T10 := sm (o := .tup [V.int 0, V.int 0, V.int 0]) f10
    have D10 : Dq K 0 NZ (upd M9 q10 (.tup [V.int 0, V.int 0, V.int 0])) (.ref q10) (.tuple [.int 0, .int 0, .int 0]) := dq_new f10 (.cons (.int 0) (.cons (.int 0) (.cons (.int 0) .nil)))
    generalize upd M9 q10 (.tup [V.int 0, V.int 0, V.int 0]) = M10 at T10 D10
    have D9 := D9.same T10
    refine ⟨szl (by simp), fun q11 f11 => ?_⟩
    have T11 := sm (o := .tup [V.ref q10]) f11
    have D11 : Dq K 0 NZ (upd M10 q11 (.tup [V.ref q10])) (.ref q11) (.tuple [.tuple [.int 0, .int 0, .int 0]]) := dq_new f11 (.cons D10 .nil)
    generalize upd M10 q11 (.tup [V.ref q10]) = M11 at T11 D11
    have D9 := D9.same T11
    have BB : Dq K 0 NZ M11 (V.ref q9) (.tuple (bs56.map bkD)) := D9
    have R0 : Dq K 0 NZ M11 _ (.tuple [rwD (0, 0, 0)]) := D11
    refine ⟨_, rfl, rows_use R0 hm1.1 (by omega) fun M rv T RR => ?_⟩
    have BB := BB.same T
    refine ⟨_, _, rfl, ?_⟩
    try dsimp only [L2.gName, List.set_cons_succ, List.set_cons_zero]
    have SM := (Same.trans (Same.trans (Same.trans (Same.trans (Same.trans (Same.trans (Same.trans (Same.trans (Same.trans (Same.trans (Same.trans (T1) T2) T3) T4) T5) T6) T7) T8) T9) T10) T11) T)
    have J6 := J5.t (Same.t SM)
    have P6 := P5.same SM
    have X6 := X5.trans (Same.x SM)
    clear SM J5 P5 X5 T1 T2 T3 T4 T5 T6 T7 T8 T9 T10 T11 T D1 D2 D3 D4 D5 D6 D7 D8 D9 D10 D11 R0
    refine ⟨_, rfl, _, rfl, _, rfl, ?_⟩
    refine ⟨szl (by simp), fun q12 f12 => ?_⟩
    have T12 := sm (o := .tup [V.int 0, V.int 1, V.int 0]) f12
    have D12 : Dq K 0 NZ (upd M q12 (.tup [V.int 0, V.int 1, V.int 0])) (.ref q12) (.tuple [.int 0, .int 1, .int 0]) := dq_new f12 (.cons (.int 0) (.cons (.int 1) (.cons (.int 0) .nil)))
    generalize upd M q12 (.tup [V.int 0, V.int 1, V.int 0]) = M12 at T12 D12
    have BB := BB.same T12
    have RR := RR.same T12
    refine ⟨szl (by simp), fun q13 f13 => ?_⟩
    have T13 := sm (o := .tup [V.ref q12]) f13
    have D13 : Dq K 0 NZ (upd M12 q13 (.tup [V.ref q12])) (.ref q13) (.tuple [.tuple [.int 0, .int 1, .int 0]]) := dq_new f13 (.cons D12 .nil)
    generalize upd M12 q13 (.tup [V.ref q12]) = M13 at T13 D13
    have BB := BB.same T13
    have RR := RR.same T13
    refine dq_cat RR D13 (by simp; omega) fun N2 v2 T2' C2 => ?_
    have BB := BB.same T2'
    have RR := RR.same T2'
    have C2 : Dq K 0 NZ N2 v2 (.tuple ((List.replicate mm (0, 0, 0) ++ [(0, 1, 0)]).map rwD)) := by rw [List.map_append]; exact C2
    refine ⟨szl (by simp), fun z9 g9 => ?_⟩
    have U9 := sm (o := .tup [V.ref q9, v2]) g9
    have E9 : Dq K 0 NZ (upd N2 z9 (.tup [V.ref q9, v2])) (.ref z9) (crtD bs56 (List.replicate mm (0, 0, 0) ++ [(0, 1, 0)])) := dq_new g9 (.cons BB (.cons C2 .nil))
    generalize upd N2 z9 (.tup [V.ref q9, v2]) = N3 at U9 E9
    have BB := BB.same U9
    have RR := RR.same U9
    have S3 := (Same.trans (Same.trans (Same.trans (T12) T13) T2') U9)
    refine ⟨0, NZ, _, _, _, one56, 2, 1, rfl, J6.t (Same.t S3), one56_is, E9, sz_crt bs56_s (hwA _ (by decide)) (by decide) (by simp; omega), fun N4 S4 => ?_⟩
    rw [many_yes (by omega)]
    have BB := BB.same S4
    have RR := RR.same S4
    have S4' := S3.trans S4
    refine ⟨_, rfl, _, rfl, _, rfl, szl (by simp), fun z10 g10 => ?_⟩
    have U10 := sm (o := .tup [V.ref q9, rv]) g10
    have E10 : Dq K 0 NZ (upd N4 z10 (.tup [V.ref q9, rv])) (.ref z10) (crtD bs56 (List.replicate mm (0, 0, 0))) := dq_new g10 (.cons BB (.cons RR .nil))
    generalize upd N4 z10 (.tup [V.ref q9, rv]) = N5 at U10 E10
    have BB := BB.same U10
    have RR := RR.same U10
    have S5 := S4'.trans U10
    refine ⟨0, NZ, _, _, _, one56, 2, 1, rfl, J6.t (Same.t S5), one56_is, E10, sz_crt bs56_s (hwB) (by decide) (by simp; omega), fun N6 S6 => ?_⟩
    rw [many_yes0 (by omega)]
    have BB := BB.same S6
    have RR := RR.same S6
    have S6' := S5.trans S6
    refine ⟨szl (by simp), fun l1 g11 => ?_⟩
    have U11 := sm (o := .lst [V.bl true, V.bl true]) g11
    have h1l : upd N6 l1 (.lst [V.bl true, V.bl true]) l1 = some (.lst [V.bl true, V.bl true]) := upd_same
    generalize upd N6 l1 (.lst [V.bl true, V.bl true]) = N7 at U11 h1l
    have BB := BB.same U11
    have RR := RR.same U11
    have S7 := S6'.trans U11
    try dsimp only [L2.gName, List.set_cons_succ, List.set_cons_zero]
    refine ⟨_, rfl, by decide, fun l2 g12 => ?_⟩
    have U12 := sm (o := .lst [V.bl true, V.bl true]) g12
    have h2l : upd N7 l2 (.lst [V.bl true, V.bl true]) l2 = some (.lst [V.bl true, V.bl true]) := upd_same
    have h1l := U12 _ _ h1l
    generalize upd N7 l2 (.lst [V.bl true, V.bl true]) = N8 at U12 h1l h2l
    have BB := BB.same U12
    have RR := RR.same U12
    have S8 := S7.trans U12
    refine ⟨.list [.bool true, .bool true], .list [.bool true, .bool true], .lst (SqL.of h1l) (.cons (.bl true) (.cons (.bl true) .nil)), .lst (SqL.of h2l) (.cons (.bl true) (.cons (.bl true) .nil)), rfl, rfl, ?_⟩
    refine ⟨_, rfl, ?_⟩
    rw [show PyData.eqv (.list [.bool true, .bool true]) (.list [.bool true, .bool true]) = true from by decide, if_pos rfl]
    refine ⟨_, rfl, _, rfl, _, rfl, ?_⟩
    refine ⟨szl (by simp), fun q14 f14 => ?_⟩
    have T14 := sm (o := .tup [V.int 0, V.int 1, V.int 1]) f14
    have D14 : Dq K 0 NZ (upd N8 q14 (.tup [V.int 0, V.int 1, V.int 1])) (.ref q14) (.tuple [.int 0, .int 1, .int 1]) := dq_new f14 (.cons (.int 0) (.cons (.int 1) (.cons (.int 1) .nil)))
    generalize upd N8 q14 (.tup [V.int 0, V.int 1, V.int 1]) = M14 at T14 D14
    have BB := BB.same T14
    have RR := RR.same T14
    refine ⟨szl (by simp), fun q15 f15 => ?_⟩
    have T15 := sm (o := .tup [V.ref q14]) f15
    have D15 : Dq K 0 NZ (upd M14 q15 (.tup [V.ref q14])) (.ref q15) (.tuple [.tuple [.int 0, .int 1, .int 1]]) := dq_new f15 (.cons D14 .nil)
    generalize upd M14 q15 (.tup [V.ref q14]) = M15 at T15 D15
    have BB := BB.same T15
    have RR := RR.same T15
    refine dq_cat RR D15 (by simp; omega) fun N9 v9 T9 C9 => ?_
    have BB := BB.same T9
    have RR := RR.same T9
    refine ⟨_, rfl, dq_cat C9 RR (by simp; omega) fun N10 v10 T10 C10 => ?_⟩
    have BB := BB.same T10
    have RR := RR.same T10
    have C10 : Dq K 0 NZ N10 v10 (.tuple ((List.replicate mm (0, 0, 0) ++ [(0, 1, 1)] ++ List.replicate mm (0, 0, 0)).map rwD)) := by rw [List.map_append, List.map_append]; exact C10
    refine ⟨szl (by simp), fun z10 g10 => ?_⟩
    have U10 := sm (o := .tup [V.ref q9, v10]) g10
    have E10 : Dq K 0 NZ (upd N10 z10 (.tup [V.ref q9, v10])) (.ref z10) (crtD bs56 (List.replicate mm (0, 0, 0) ++ [(0, 1, 1)] ++ List.replicate mm (0, 0, 0))) := dq_new g10 (.cons BB (.cons C10 .nil))
    generalize upd N10 z10 (.tup [V.ref q9, v10]) = N11 at U10 E10
    have BB := BB.same U10
    have RR := RR.same U10
    have S11 := S8.trans (Same.trans (Same.trans (Same.trans (Same.trans (T14) T15) T9) T10) U10)
    refine ⟨0, NZ, _, _, _, one56, 2, 1, rfl, J6.t (Same.t S11), one56_is, E10, sz_crt bs56_s (fun r hr => (List.mem_append.mp hr).elim (hwA _ (by decide) r) (hwB r)) (by decide) (by simp; omega), fun N12 S12 => ?_⟩
    rw [many_no (by omega)]
    refine ⟨false, false, rfl, rfl, ?_⟩
    exact k _ (X6.trans (Same.x (S11.trans S12))) (P6.same (S11.trans S12))
end
end LA

set_option maxHeartbeats 4000000
namespace LA
open PySem L2
open C8 (Cal pe_c)
section
variable {P : Program} {w : World} {K : PySem.W.Frag} {mg : Str → Option Value} {base : Heap}
abbrev s_states_behind : Stmt := topS 7
abbrev N_states_behind : List Str := ["states", "relation", "state", "goal"]
theorem sc_states_behind : FnScope N_states_behind ["states", "relation"] (defScope s_states_behind) := ⟨rfl, rfl, rfl, by decide +kernel, rfl, by decide +kernel, by decide +kernel⟩
theorem ok_states_behind {f : Addr} {fd : FuncData} (F : Fun K "states_behind" "states_behind" s_states_behind f fd) (T : Bt mg) : FnOk P w K mg base CX0 1 f fd ["states", "relation"] (spBhd K) := by
  refine F.ok sc_states_behind (fun vs H Q E h => ?_) (fun cdv A outer s H vs Q E hr h => ?_)
  · obtain ⟨sv, rv, S, r, rfl, _⟩ := h
    rfl
  · obtain ⟨sv, rv, S, r, rfl, hS, hR, ir, h8, hl, q⟩ := h
    refine ⟨_, (pss_one (ps_ret (pe_callTy (tupK K) (by rfl) T.tuple (by decide +kernel) (pa_cons (pe_callB (sortedIK w rfl) (by rfl) T.sorted (by decide +kernel) (pa_cons (pe_sci2 (w := w) (own := [("state", 2), ("goal", 3)]) (vs1 := [3]) (g := (gName 2)) (g1 := (gName 3)) (tt := tYes) (tt1 := tYes) rfl sc_states_behind.nd (piTK K (pv 0)) (blkOk_by (N := N_states_behind) (sc := defScope s_states_behind) (by decide +kernel)) (by decide) (fun _ _ _ _ _ => (pg_name (i := 2) sc_states_behind.nd rfl (Or.inl rfl))) (fun _ _ _ _ _ => pts_nil) (fun _ _ _ _ _ => (piTK K (pe_ix (ixTK K) (pv 1) (pv 2) (fun _ _ => rfl)))) (fun _ _ _ _ _ => (pg_name (i := 3) sc_states_behind.nd rfl (Or.inl rfl))) (fun _ _ _ _ _ => pts_nil) (fun _ _ _ _ _ => (pv 3))) pa_nil)) pa_nil)))), ?_⟩
    obtain ⟨sa, rfl, hsa⟩ := id hS
    obtain ⟨ra, rvs, rfl, hra, hrp⟩ := id hR
    have few : ∀ l : List Int, l.Nodup → (∀ x ∈ l, 0 ≤ x ∧ x < 8) → l.length ≤ 8 := fun l h1 h2 => nodup_le 8 l h1 h2
    refine ⟨_, rfl, sa, rfl, ⟨_, hsa⟩, fun D hD => ?_⟩
    refine walk_by (walk_tup (K := K) (a := sa) (xs := S.map nV)) (fun i H' => ∃ l : List Int, SetL w H' D l ∧ (∀ x, x ∈ l ↔ ∃ t : Nat, x = (t : Int) ∧ ∃ s ∈ S.take i, t ∈ r.getD s []) ∧ Same H H')
      ⟨[], SetL.nil, by simp, sm hD⟩ (fun i H' _ ⟨_, _, _, z⟩ => (Same.t z).seq hsa) ?_ ?_
    · rintro i xv H1 H1' hi ⟨l, hD1, hm1, S1⟩ ⟨rfl, hx⟩
      rw [List.getElem?_map] at hx
      obtain ⟨s0, hs0, rfl⟩ := Option.map_eq_some_iff.mp hx
      have hs0m := List.mem_of_getElem? hs0
      have hs0l := hl s0 hs0m
      obtain ⟨row, hrow, hrm⟩ : ∃ row, r[s0]? = some row ∧ row ∈ r := ⟨r[s0], List.getElem?_eq_getElem hs0l, List.getElem_mem hs0l⟩
      obtain ⟨_, hrv, rwa, rfl, hrwa⟩ := paired_at' hrp hrow
      have hgd : r.getD s0 [] = row := by rw [List.getD_eq_getElem?_getD, hrow]; rfl
      refine ⟨rfl, tyes ?_⟩
      refine ⟨_, rfl, _, rfl, ra, rvs, _, .ref rwa, rfl, rfl, (Same.t S1).seq hra, atI_nat hrv, rwa, rfl, ⟨_, (Same.t S1).seq hrwa⟩, ?_⟩
      refine walk_by (walk_tup (K := K) (a := rwa) (xs := row.map nV)) (fun k H' => ∃ l : List Int, SetL w H' D l ∧ (∀ x, x ∈ l ↔ ∃ t : Nat, x = (t : Int) ∧ ((∃ s ∈ S.take i, t ∈ r.getD s []) ∨ t ∈ row.take k)) ∧ Same H H')
        ⟨l, hD1, fun x => by rw [hm1]; simp, S1⟩ (fun k H' _ ⟨_, _, _, z⟩ => (Same.t z).seq hrwa) ?_ ?_
      · rintro k yv H2 H2' hk ⟨l2, hD2, hm2, S2⟩ ⟨rfl, hy⟩
        rw [List.getElem?_map] at hy
        obtain ⟨t0, ht0, rfl⟩ := Option.map_eq_some_iff.mp hy
        have ht8 : t0 < r.length := ir.lt row hrm t0 (List.mem_of_getElem? ht0)
        have h8' : l2.length ≤ 8 := few l2 hD2.nd fun x hx => by
          obtain ⟨t, rfl, z⟩ := (hm2 x).mp hx
          have : t < r.length := by
            rcases z with ⟨s, hs, z⟩ | z
            · have hsl := hl s (List.mem_of_mem_take hs)
              have hm : r.getD s [] ∈ r := by simp [hsl]
              exact ir.lt _ hm t z
            · exact ir.lt row hrm t (List.mem_of_mem_take z)
          omega
        refine ⟨rfl, tyes ?_⟩
        refine ⟨_, rfl, put_int hD2 (by omega) fun o hD3 => ⟨_, hD3, fun x => ?_, S2.own hD⟩⟩
        rw [addL_mem, hm2 x, List.take_add_one, ht0]
        constructor
        · rintro (⟨t, e, z⟩ | e)
          · exact ⟨t, e, z.imp id fun z => List.mem_append_left _ z⟩
          · exact ⟨t0, e, .inr (by simp)⟩
        · rintro ⟨t, e, z | z⟩
          · exact .inl ⟨t, e, .inl z⟩
          · rcases List.mem_append.mp z with z | z
            · exact .inl ⟨t, e, .inr z⟩
            · have : t = t0 := by simpa using z
              subst this
              exact .inr e
      · rintro H2 ⟨l2, hD2, hm2, S2⟩
        rw [List.length_map, List.take_length] at hm2
        refine ⟨l2, hD2, fun x => ?_, S2⟩
        rw [hm2 x, List.take_add_one, hs0]
        constructor
        · rintro ⟨t, e, ⟨s, hs, z⟩ | z⟩
          · exact ⟨t, e, s, List.mem_append_left _ hs, z⟩
          · exact ⟨t, e, s0, by simp, by rw [hgd]; exact z⟩
        · rintro ⟨t, e, s, hs, z⟩
          rcases List.mem_append.mp hs with hs | hs
          · exact ⟨t, e, .inl ⟨s, hs, z⟩⟩
          · have : s = s0 := by simpa using hs
            subst this
            rw [hgd] at z
            exact ⟨t, e, .inr z⟩
    · rintro H1 ⟨l, hD1, hm1, S1⟩
      rw [List.length_map, List.take_length] at hm1
      have hlt : ∀ t : Nat, (∃ s ∈ S, t ∈ r.getD s []) → t < r.length := fun t ⟨s, hs, z⟩ => by
        have hsl := hl s hs
        have hm : r.getD s [] ∈ r := by simp [hsl]
        exact ir.lt _ hm t z
      have h8' : l.length ≤ 8 := few l hD1.nd fun x hx => by
        obtain ⟨t, rfl, z⟩ := (hm1 x).mp hx
        have := hlt t z
        omega
      dsimp only [L2.tNil]
      refine sort_set hD1 (by omega) fun ns np h1 h2 hnp => ?_
      have e : ns = (behind r S).map (fun x : Nat => (x : Int)) := upS_of h1 fun x => by
        rw [h2 x, hm1 x]
        constructor
        · rintro ⟨t, e, z⟩
          refine ⟨t, e, hlt t z, ?_⟩
          obtain ⟨s, hs, z⟩ := z
          exact List.any_eq_true.mpr ⟨s, hs, by simpa using z⟩
        · rintro ⟨t, e, _, z⟩
          obtain ⟨s, hs, z⟩ := List.any_eq_true.mp z
          exact ⟨t, e, s, hs, by simpa using z⟩
      refine ⟨np, _, rfl, .inl ⟨SqL.of upd_same, fun ta hta => ?_⟩⟩
      refine q _ _ ((S1.trans (sm hnp)).trans (sm hta)) ⟨ta, rfl, SqT.of ?_⟩
      rw [upd_same, e, List.map_map]; rfl
abbrev s_composed_again : Stmt := topS 8
abbrev N_composed_again : List Str := ["one", "other", "known", "states"]
theorem sc_composed_again : FnScope N_composed_again ["one", "other", "known"] (defScope s_composed_again) := ⟨rfl, rfl, rfl, by decide +kernel, rfl, by decide +kernel, by decide +kernel⟩
theorem ok_composed_again {f : Addr} {fd : FuncData} (F : Fun K "composed_again" "composed_again" s_composed_again f fd) (T : Bt mg) (c_states_behind : Cal P w K mg base 1 "states_behind" (spBhd K) []) : FnOk P w K mg base CX0 2 f fd ["one", "other", "known"] (spCompA K P w) := by
  refine F.ok sc_composed_again (fun vs H Q E h => ?_) (fun cdv A outer s H vs Q E hr h => ?_)
  · obtain ⟨ov, rv, kd, a, r, m, rfl, _⟩ := h
    rfl
  · obtain ⟨ov, rv, kd, a, r, m, rfl, hO, hR, ir, h8, hl, ha8, hK, hm, q⟩ := h
    have hu64 := hr.units
    refine ⟨_, (pss_cons (ps_for PassesOwn.never rfl (piTK K (pv 0)) (pg_name (i := 3) sc_composed_again.nd rfl (Or.inl rfl))
(pss_one (ps_if (pt_cmpR (notInNK K P w hu64) (pv 3) (pv 2) rfl)
(pss_one (ps_asg (pe_c c_states_behind hr (by decide) rfl (pa_cons (pv 3) (pa_cons (pv 1) pa_nil))) (pg_sub (pv 2) (pv 3) (setNK K P w hu64))))
pss_nil)))
(pss_one (ps_ret (pe_callTy (tupK K) (by rfl) T.tuple (by decide +kernel) (pa_cons (pe_lc (own := [("states", 3)]) (g := (gName 3)) (tt := tYes) rfl sc_composed_again.nd (piTK K (pv 0)) (blkOk_by (N := N_composed_again) (sc := defScope s_composed_again) (by decide +kernel)) (fun _ _ _ _ _ => (pg_name (i := 3) sc_composed_again.nd rfl (Or.inl rfl))) (fun _ _ _ _ _ => pts_nil) (fun _ _ _ _ _ => (pe_dgetN K P w hu64 (pv 2) (pv 3) (fun _ _ => rfl)))) pa_nil))))), ?_⟩
    obtain ⟨oa, ovs, rfl, hoa, hop⟩ := id hO
    have hol := paired_len hop
    refine ⟨_, rfl, oa, rfl, ⟨_, hoa⟩, for_tup (K := K) (a := oa) (xs := ovs) (fun i σ H' => ∃ (v3 : Option V), σ = [some (.ref oa), some rv, some (.ref kd), v3] ∧ SameX kd H H' ∧ SameT H H' ∧ ∃ L ep, KnD K P w H' kd r L ep ∧ L.length ≤ m + i ∧ ∀ S ∈ a.take i, (atN L (wK S)).isSome = true)
      ?_ (fun i σ H' _ ⟨_, _, _, z, _⟩ => z.seq hoa) ?_ ?_⟩
    · obtain ⟨L, ep, k1, k2⟩ := hK
      exact ⟨none, rfl, SameX.refl _ _, SameT.refl H, L, ep, k1, k2, by simp⟩
    · rintro i xv σ H1 hx ⟨v3, rfl, X1, t1, L, ep, kn, hL, hall⟩
      obtain ⟨S, hS, wa, rfl, hwa⟩ := paired_at hop hx
      have hi8 : i < 8 := by have := (List.getElem?_eq_some_iff.mp hx).1; omega
      have hSl := hl S (List.mem_of_getElem? hS)
      have hW1 : WordAt K H1 (.ref wa) S := ⟨wa, rfl, t1.seq hwa⟩
      refine ⟨_, rfl, _, rfl, kd, wa, L, wK S, ep, rfl, rfl, kn.at_, kn.keys, w_key hW1, wK_depth S, _, rfl, ?_⟩
      rcases kn.get S with e | ⟨b, v, e, hv⟩
      · rw [e]
        refine iteT ⟨_, rfl, _, rfl, .ref wa, rv, S, r, rfl, hW1, hR.t t1, ir, h8, hSl, fun H2 v S2 hv => ?_⟩
        have kn2 := kn.t (Same.t S2) ((S2 _ _ kn.at_).trans kn.at_.symm)
        refine ⟨_, rfl, _, rfl, kd, wa, L, wK S, ep, rfl, rfl, kn2.at_, kn2.keys, w_key (hW1.t (Same.t S2)), wK_depth S, Nat.lt_of_le_of_lt (show L.length ≤ 1000000 by omega) (by decide), fun ep' => ?_⟩
        obtain ⟨kn3, t3⟩ := kn2.put (b := wa) (v := v) (ep' := ep') e (hW1.t (Same.t S2)) hv
        refine ⟨_, rfl, fun c o hc nc => ?_, (t1.trans (Same.t S2)).trans t3, _, _, kn3, by simp; omega, fun S' hS' => ?_⟩
        · rw [upd_ne nc]; exact S2 _ _ (X1 c o hc nc)
        · rw [List.take_add_one, hS] at hS'
          have hat : ∀ S', (atN (L ++ [(wK S, wa, v)]) (wK S')).isSome = ((atN L (wK S')).isSome || decide (S' = S)) := fun S' => by
            unfold atN
            rw [List.find?_append]
            cases hf : L.find? fun l => decide (l.1 = wK S') with
            | some l => simp
            | none =>
              by_cases z : S' = S
              · subst z; simp
              · have : ¬ wK S = wK S' := fun y => z (wK_inj y).symm
                simp [this, z]
          rw [hat]
          rcases List.mem_append.mp hS' with z | z
          · rw [hall S' z]; rfl
          · have : S' = S := by simpa using z
            simp [this]
      · rw [e]
        refine iteF ⟨_, rfl, X1, t1, L, ep, kn, by omega, fun S' hS' => ?_⟩
        rw [List.take_add_one, hS] at hS'
        rcases List.mem_append.mp hS' with z | z
        · exact hall S' z
        · have : S' = S := by simpa using z
          rw [this, e]; rfl
    · rintro σ H1 ⟨v3, rfl, X1, t1, L, ep, kn, hL, hall⟩
      rw [hol, List.take_length] at hall
      refine ⟨_, rfl, oa, rfl, ⟨_, t1.seq hoa⟩, fun D hD => ?_⟩
      have nD : kd ≠ D := ne_of_none kn.at_ hD
      refine lc_tup (K := K) (a := oa) (xs := ovs) (fun i H' => ∃ vs, H' D = some (.lst vs) ∧ Paired (WordAt K H') vs ((a.take i).map (behind r)) ∧ Same H1 H')
        ⟨[], upd_same, by simpa using Paired.nil, sm hD⟩ (fun i H' _ ⟨_, _, _, z⟩ => (t1.trans (Same.t z)).seq hoa) ?_ ?_
      · rintro i xv H2 hx ⟨vs, h2, hp2, S2⟩
        obtain ⟨S, hS, wa, rfl, hwa⟩ := paired_at hop hx
        have hi8 : i < 8 := by have := (List.getElem?_eq_some_iff.mp hx).1; omega
        have hvl := paired_len hp2
        rw [List.length_map, List.length_take] at hvl
        have kn2 := kn.t (Same.t S2) ((S2 _ _ kn.at_).trans kn.at_.symm)
        have hW2 : WordAt K H2 (.ref wa) S := ⟨wa, rfl, (t1.trans (Same.t S2)).seq hwa⟩
        rcases kn2.get S with e | ⟨b, v, e, hv⟩
        · have := hall S (List.mem_of_getElem? hS)
          rw [e] at this; cases this
        refine ⟨rfl, tyes ?_⟩
        refine ⟨_, rfl, _, rfl, kd, wa, b, L, wK S, v, ep, rfl, rfl, kn2.at_, kn2.keys, w_key hW2, wK_depth S, e, ?_⟩
        refine ⟨_, h2, Nat.lt_of_le_of_lt (show vs.length ≤ 1000 by omega) (by decide), vs ++ [v], upd_same, ?_, S2.own hD⟩
        rw [List.take_add_one, hS, List.map_append]
        have t2 := SameT.lst (ys := vs ++ [v]) h2
        exact paired_snoc (paired_map hp2 fun _ _ z => z.t t2) (hv.t t2)
      · rintro H2 ⟨vs, h2, hp2, S2⟩
        rw [hol, List.take_length] at hp2
        refine ⟨D, _, rfl, .inl ⟨SqL.of h2, fun ra hra => ?_⟩⟩
        have TR := sm (o := .tup vs) hra
        have S3 := S2.trans TR
        refine q _ _ (fun c o hc nc => S3 _ _ (X1 c o hc nc)) ⟨L, ep, kn.t (Same.t S3) ((S3 _ _ kn.at_).trans kn.at_.symm), by omega⟩ ⟨ra, vs, rfl, SqT.of upd_same, paired_map hp2 fun _ _ z => z.t (Same.t TR)⟩
abbrev s_relation_of_nothing : Stmt := topS 9
abbrev N_relation_of_nothing : List Str := ["judge", "state"]
theorem sc_relation_of_nothing : FnScope N_relation_of_nothing ["judge"] (defScope s_relation_of_nothing) := ⟨rfl, rfl, rfl, by decide +kernel, rfl, by decide +kernel, by decide +kernel⟩
theorem ok_relation_of_nothing {f : Addr} {fd : FuncData} (F : Fun K "relation_of_nothing" "relation_of_nothing" s_relation_of_nothing f fd) (T : Bt mg) : FnOk P w K mg base CX0 1 f fd ["judge"] (spNoth K) := by
  refine F.ok sc_relation_of_nothing (fun vs H Q E h => ?_) (fun cdv A outer s H vs Q E hr h => ?_)
  · obtain ⟨jv, j, nx, ny, rfl, _⟩ := h
    rfl
  · obtain ⟨jv, j, nx, ny, rfl, hJ, ij, q⟩ := h
    refine ⟨_, (pss_one (ps_ret (pe_callTy (tupK K) (by rfl) T.tuple (by decide +kernel) (pa_cons (pe_lc (own := [("state", 1)]) (g := (gName 1)) (tt := tYes) rfl sc_relation_of_nothing.nd (pi_range1 (by rfl) T.range (pa_cons (pe_callB (lenK K) (by rfl) T.len PySem.boot_len (pa_cons (pv 0) pa_nil)) pa_nil)) (blkOk_by (N := N_relation_of_nothing) (sc := defScope s_relation_of_nothing) (by decide +kernel)) (fun _ _ _ _ _ => (pg_name (i := 1) sc_relation_of_nothing.nd rfl (Or.inl rfl))) (fun _ _ _ _ _ => pts_nil) (fun _ _ _ _ _ => (pe_tup (pa_cons (pv 1) pa_nil)))) pa_nil)))), ?_⟩
    obtain ⟨ja, jvs, rfl, hja, hjl⟩ := hJ.size
    have n8 := ij.n8
    refine ⟨_, rfl, ja, jvs, rfl, .inr hja, _, rfl, by omega, by omega, fun D hD => ?_⟩
    refine lc_range (lo := 0) (fun i H' => ∃ vs, H' D = some (.lst vs) ∧ Paired (WordAt K H') vs ((List.range i).map fun s => [s]) ∧ Same H H')
      ⟨[], upd_same, .nil, sm hD⟩ ?_ ?_
    · rintro i H1 hi ⟨vs, h1, hp1, S1⟩
      have hi8 : i < 8 := by have := hi; omega
      have hvl := paired_len hp1
      rw [List.length_map, List.length_range] at hvl
      refine ⟨rfl, tyes ?_⟩
      refine ⟨_, rfl, szl (by simp), fun ta hta => ?_⟩
      have TA := sm (o := .tup [V.int (0 + (i : Int))]) hta
      have h2 := TA _ _ h1
      refine ⟨_, h2, Nat.lt_of_le_of_lt (show vs.length ≤ 1000 by omega) (by decide), vs ++ [.ref ta], upd_same, ?_, (S1.trans TA).own hD⟩
      rw [List.range_succ, List.map_append]
      have t2 := SameT.lst (ys := vs ++ [V.ref ta]) h2
      refine paired_snoc (paired_map hp1 fun _ _ z => (z.t (Same.t TA)).t t2) ⟨ta, rfl, t2.seq (SqT.of ?_)⟩
      rw [upd_same, Int.zero_add]; rfl
    · rintro H1 ⟨vs, h1, hp1, S1⟩
      have en : ((jvs.length : Int)).toNat = j.length := by omega
      rw [en] at hp1
      refine ⟨D, _, rfl, .inl ⟨SqL.of h1, fun ra hra => ?_⟩⟩
      have TR := sm (o := .tup vs) hra
      exact q _ _ (S1.trans TR) ⟨ra, vs, rfl, SqT.of upd_same, paired_map hp1 fun _ _ z => z.t (Same.t TR)⟩
abbrev s_relation_of_letter : Stmt := topS 10
abbrev N_relation_of_letter : List Str := ["judge", "x", "entry", "state"]
theorem sc_relation_of_letter : FnScope N_relation_of_letter ["judge", "x"] (defScope s_relation_of_letter) := ⟨rfl, rfl, rfl, by decide +kernel, rfl, by decide +kernel, by decide +kernel⟩
theorem ok_relation_of_letter {f : Addr} {fd : FuncData} (F : Fun K "relation_of_letter" "relation_of_letter" s_relation_of_letter f fd) (T : Bt mg) : FnOk P w K mg base CX0 1 f fd ["judge", "x"] (spRLet K) := by
  refine F.ok sc_relation_of_letter (fun vs H Q E h => ?_) (fun cdv A outer s H vs Q E hr h => ?_)
  · obtain ⟨jv, j, nx, ny, x, rfl, _⟩ := h
    rfl
  · obtain ⟨jv, j, nx, ny, x, rfl, hJ, ij, hx, q⟩ := h
    refine ⟨_, (pss_one (ps_ret (pe_callTy (tupK K) (by rfl) T.tuple (by decide +kernel) (pa_cons (pe_lc (own := [("state", 3)]) (g := (gName 3)) (tt := tYes) rfl sc_relation_of_letter.nd (piTK K (pv 0)) (blkOk_by (N := N_relation_of_letter) (sc := defScope s_relation_of_letter) (by decide +kernel)) (fun _ _ _ _ _ => (pg_name (i := 3) sc_relation_of_letter.nd rfl (Or.inl rfl))) (fun _ _ _ _ _ => pts_nil) (fun _ _ _ _ _ => (pe_callTy (tupK K) (by rfl) T.tuple (by decide +kernel) (pa_cons (pe_callB (sortedIK w rfl) (by rfl) T.sorted (by decide +kernel) (pa_cons (pe_sci (w := w) (own := [("entry", 2)]) (g := (gName 2)) rfl sc_relation_of_letter.nd (piTK K (pe_ix (ixTK K) (pv 3) (pv 1) (fun _ _ => rfl))) (blkOk_by (N := N_relation_of_letter) (sc := relS (lcS (exX 0 (stX ((defBody s_relation_of_letter).getD 0 noS)))) (defScope s_relation_of_letter)) (by decide +kernel)) (fun _ _ _ _ _ => (pg_name (i := 2) sc_relation_of_letter.nd rfl (Or.inl rfl))) (fun _ _ _ _ _ => (pts_one (pt_cmpR op_notN (pv 2) pe_non (nomark _)))) (fun _ _ _ _ _ => (pv 2))) pa_nil)) pa_nil)))) pa_nil)))), ?_⟩
    obtain ⟨ja, jvs, rfl, hja, hjp⟩ := id hJ
    have n8 := ij.n8
    have hjl := paired_len hjp
    refine ⟨_, rfl, ja, rfl, ⟨_, hja⟩, fun D hD => ?_⟩
    refine lc_tup (K := K) (a := ja) (xs := jvs) (fun i H' => ∃ vs, H' D = some (.lst vs) ∧ Paired (WordAt K H') vs ((List.range i).map fun s => upS j.length (fun t => (rowJ j s x).contains (some t))) ∧ Same H H')
      ⟨[], upd_same, .nil, sm hD⟩ (fun i H' _ ⟨_, _, _, z⟩ => (Same.t z).seq hja) ?_ ?_
    · rintro i sv H1 hsv ⟨vs, h1, hp1, S1⟩
      have hi : i < j.length := by have := (List.getElem?_eq_some_iff.mp hsv).1; omega
      have hvl := paired_len hp1
      rw [List.length_map, List.length_range] at hvl
      obtain ⟨sd, a1, a2, a3, a4⟩ := row_at ij hi hx
      obtain ⟨sd', a1', q2, us', rfl, g3, hsp⟩ := paired_at hjp hsv
      rw [a1] at a1'
      cases a1'
      obtain ⟨_, g4, q3, rfl, g5⟩ := paired_at' hsp a2
      have g3 := (Same.t S1).seq g3
      have g5 := (Same.t S1).seq g5
      have hrl := (row_ok ij hi hx).1
      refine ⟨rfl, tyes ?_⟩
      refine ⟨_, rfl, _, rfl, q2, us', _, .ref q3, rfl, rfl, g3, atI_nat g4, q3, rfl, ⟨_, g5⟩, fun D2 hD2 => ?_⟩
      have few : ∀ l : List Int, l.Nodup → (∀ x ∈ l, 0 ≤ x ∧ x < 8) → l.length ≤ 8 := fun l h1 h2 => nodup_le 8 l h1 h2
      refine walk_by (walk_tup (K := K) (a := q3) (xs := (rowJ j i x).map oV)) (fun k H' => ∃ l : List Int, SetL w H' D2 l ∧ (∀ y, y ∈ l ↔ ∃ t : Nat, y = (t : Int) ∧ some t ∈ (rowJ j i x).take k) ∧ Same H1 H')
        ⟨[], SetL.nil, by simp, sm hD2⟩ (fun k H' _ ⟨_, _, _, z⟩ => (Same.t z).seq g5) ?_ ?_
      · rintro k yv H2 H2' hk ⟨l, hL, hm, S2⟩ ⟨rfl, hy⟩
        rw [List.getElem?_map] at hy
        obtain ⟨o, ho, rfl⟩ := Option.map_eq_some_iff.mp hy
        have hlt : ∀ t, some t ∈ rowJ j i x → t < j.length := fun t ht => (row_ok ij hi hx).2.1 t ht
        have h8' : l.length ≤ 8 := few l hL.nd fun y hy => by
          obtain ⟨t, rfl, z⟩ := (hm y).mp hy
          have := hlt t (List.mem_of_mem_take z)
          omega
        refine ⟨rfl, _, rfl, rfl, _, rfl, ?_⟩
        cases o with
        | none =>
          refine ite2 (fun z => absurd z (by decide)) (fun _ => ⟨l, hL, fun y => ?_, S2⟩)
          rw [hm y, List.take_add_one, ho]; simp
        | some t' =>
          refine ite2 (fun _ => ?_) (fun z => absurd rfl z)
          refine ⟨_, rfl, put_int (k := (t' : Int)) hL (by omega) fun o hL3 => ⟨_, hL3, fun y => ?_, S2.own hD2⟩⟩
          rw [addL_mem, hm y, List.take_add_one, ho]
          constructor
          · rintro (⟨t, e, z⟩ | e)
            · exact ⟨t, e, List.mem_append_left _ z⟩
            · exact ⟨t', e, by simp⟩
          · rintro ⟨t, e, z⟩
            rcases List.mem_append.mp z with z | z
            · exact .inl ⟨t, e, z⟩
            · have : t = t' := by simpa using z
              subst this
              exact .inr e
      · rintro H2 ⟨l, hL, hm, S2⟩
        rw [List.length_map, List.take_length] at hm
        have h8' : l.length ≤ 8 := few l hL.nd fun y hy => by
          obtain ⟨t, rfl, z⟩ := (hm y).mp hy
          have := (row_ok ij hi hx).2.1 t z
          omega
        dsimp only [L2.tNil]
        refine sort_set hL (by omega) fun ns np h1' h2' hnp => ?_
        have e : ns = (upS j.length (fun t => (rowJ j i x).contains (some t))).map (fun x : Nat => (x : Int)) := upS_of h1' fun y => by
          rw [h2' y, hm y]
          constructor
          · rintro ⟨t, e, z⟩
            exact ⟨t, e, (row_ok ij hi hx).2.1 t z, by simpa using z⟩
          · rintro ⟨t, e, _, z⟩
            exact ⟨t, e, by simpa using z⟩
        refine ⟨np, _, rfl, .inl ⟨SqL.of upd_same, fun ta hta => ?_⟩⟩
        have S3 := (S2.trans (sm (o := .lst (ns.map V.int)) hnp)).trans (sm (o := .tup (ns.map V.int)) hta)
        have h2 := S3 _ _ h1
        refine ⟨_, h2, Nat.lt_of_le_of_lt (show vs.length ≤ 1000 by omega) (by decide), vs ++ [.ref ta], upd_same, ?_, (S1.trans S3).own hD⟩
        rw [List.range_succ, List.map_append]
        have t2 := SameT.lst (ys := vs ++ [V.ref ta]) h2
        refine paired_snoc (paired_map hp1 fun _ _ z => (z.t (Same.t S3)).t t2) ⟨ta, rfl, t2.seq (SqT.of ?_)⟩
        rw [upd_same, e, List.map_map]; rfl
    · rintro H1 ⟨vs, h1, hp1, S1⟩
      rw [hjl] at hp1
      refine ⟨D, _, rfl, .inl ⟨SqL.of h1, fun ra hra => ?_⟩⟩
      have TR := sm (o := .tup vs) hra
      exact q _ _ (S1.trans TR) ⟨ra, vs, rfl, SqT.of upd_same, paired_map hp1 fun _ _ z => z.t (Same.t TR)⟩
abbrev s_relations_of_letters : Stmt := topS 11
abbrev N_relations_of_letters : List Str := ["judge", "x"]
theorem sc_relations_of_letters : FnScope N_relations_of_letters ["judge"] (defScope s_relations_of_letters) := ⟨rfl, rfl, rfl, by decide +kernel, rfl, by decide +kernel, by decide +kernel⟩
theorem ok_relations_of_letters {f : Addr} {fd : FuncData} (F : Fun K "relations_of_letters" "relations_of_letters" s_relations_of_letters f fd) (T : Bt mg) (c_input_count : Cal P w K mg base 1 "input_count" (spInC K) []) (c_relation_of_letter : Cal P w K mg base 1 "relation_of_letter" (spRLet K) []) : FnOk P w K mg base CX0 2 f fd ["judge"] (spRLets K) := by
  refine F.ok sc_relations_of_letters (fun vs H Q E h => ?_) (fun cdv A outer s H vs Q E hr h => ?_)
  · obtain ⟨jv, j, nx, ny, rfl, _⟩ := h
    rfl
  · obtain ⟨jv, j, nx, ny, rfl, hJ, ij, q⟩ := h
    refine ⟨_, (pss_one (ps_ret (pe_lc (own := [("x", 1)]) (g := (gName 1)) (tt := tYes) rfl sc_relations_of_letters.nd (pi_range1 (by rfl) T.range (pa_cons (pe_c c_input_count hr (by decide) rfl (pa_cons (pv 0) pa_nil)) pa_nil)) (blkOk_by (N := N_relations_of_letters) (sc := defScope s_relations_of_letters) (by decide +kernel)) (fun _ _ _ _ _ => (pg_name (i := 1) sc_relations_of_letters.nd rfl (Or.inl rfl))) (fun _ _ _ _ _ => pts_nil) (fun _ _ _ _ _ => (pe_c c_relation_of_letter hr (by decide) rfl (pa_cons (pv 0) (pa_cons (pv 1) pa_nil))))))), ?_⟩
    have x4 := ij.x4
    refine ⟨_, rfl, jv, j, nx, ny, rfl, hJ, ij, _, rfl, by omega, by omega, fun D hD => ?_⟩
    refine lc_range (lo := 0) (fun i H' => ∃ vs, H' D = some (.lst vs) ∧ Paired (RAt K H') vs ((List.range i).map (relL j)) ∧ Same H H')
      ⟨[], upd_same, .nil, sm hD⟩ ?_ ?_
    · rintro i H1 hi ⟨vs, h1, hp1, S1⟩
      have hi4 : i < nx := by have := hi; omega
      have hvl := paired_len hp1
      rw [List.length_map, List.length_range] at hvl
      refine ⟨rfl, tyes ?_⟩
      refine ⟨_, rfl, _, rfl, jv, j, nx, ny, i, by rw [Int.zero_add]; rfl, hJ.t (Same.t S1), ij, hi4, fun H2 v S2 hv => ?_⟩
      have h2 := S2 _ _ h1
      refine ⟨_, h2, Nat.lt_of_le_of_lt (show vs.length ≤ 1000 by omega) (by decide), vs ++ [v], upd_same, ?_, (S1.trans S2).own hD⟩
      rw [List.range_succ, List.map_append]
      have t2 := SameT.lst (ys := vs ++ [v]) h2
      exact paired_snoc (paired_map hp1 fun _ _ z => (z.t (Same.t S2)).t t2) (hv.t t2)
    · rintro H1 ⟨vs, h1, hp1, S1⟩
      have en : ((nx : Int)).toNat = nx := by omega
      rw [en] at hp1
      exact q _ _ vs S1 hD h1 hp1
end
end LA

set_option maxHeartbeats 4000000
namespace LA
open PySem L2
open C8 (Cal pe_c)
section
variable {P : Program} {w : World} {K : PySem.W.Frag} {mg : Str → Option Value} {base : Heap}
abbrev s_relation_of : Stmt := topS 12
abbrev N_relation_of : List Str := ["judge", "inputs", "letters", "known", "letter", "relation", "x"]
theorem sc_relation_of : FnScope N_relation_of ["judge", "inputs"] (defScope s_relation_of) := ⟨rfl, rfl, rfl, by decide +kernel, rfl, by decide +kernel, by decide +kernel⟩
theorem ok_relation_of {f : Addr} {fd : FuncData} (F : Fun K "relation_of" "relation_of" s_relation_of f fd) (T : Bt mg) (c_relations_of_letters : Cal P w K mg base 2 "relations_of_letters" (spRLets K) []) (c_relation_of_nothing : Cal P w K mg base 1 "relation_of_nothing" (spNoth K) []) (c_composed_again : Cal P w K mg base 2 "composed_again" (spCompA K P w) []) : FnOk P w K mg base CX0 3 f fd ["judge", "inputs"] (spRelOf K) := by
  refine F.ok sc_relation_of (fun vs H Q E h => ?_) (fun cdv A outer s H vs Q E hr h => ?_)
  · obtain ⟨jv, wv, j, nx, ny, wd, rfl, _⟩ := h
    rfl
  · obtain ⟨jv, wv, j, nx, ny, wd, rfl, hJ, ij, hW, hw, q⟩ := h
    refine ⟨_, (pss_cons (ps_set (i := 2) sc_relation_of.nd rfl (Or.inl rfl) (pe_c c_relations_of_letters hr (by decide) rfl (pa_cons (pv 0) pa_nil)))
(pss_cons (ps_setLc (i := 3) (own := [("letter", 4)]) (g := (gName 4)) (tt := tYes) rfl sc_relation_of.nd rfl rfl (sw_true rfl rfl rfl (by decide +kernel)) (piLK K (pv 2)) (blkOk_by (N := N_relation_of) (sc := defScope s_relation_of) (by decide +kernel)) (fun _ _ _ _ _ => (pg_name (i := 4) sc_relation_of.nd rfl (Or.inl rfl))) (fun _ _ _ _ _ => pts_nil) (fun _ _ _ _ _ => (pe_dnewN P w)))
(pss_cons (ps_set (i := 5) sc_relation_of.nd rfl (Or.inl rfl) (pe_c c_relation_of_nothing hr (by decide) rfl (pa_cons (pv 0) pa_nil)))
(pss_cons (ps_for PassesOwn.never rfl (piTK K (pv 1)) (pg_name (i := 6) sc_relation_of.nd rfl (Or.inl rfl))
(pss_one (ps_set (i := 5) sc_relation_of.nd rfl (Or.inl rfl) (pe_c c_composed_again hr (by decide) rfl (pa_cons (pv 5) (pa_cons (pe_ix (ixLK K) (pv 2) (pv 6) (fun _ _ => rfl)) (pa_cons (pe_ix (ixLK K) (pv 3) (pv 6) (fun _ _ => rfl)) pa_nil)))))))
(pss_one (ps_ret (pv 5))))))), ?_⟩
    have n8 := ij.n8
    have x4 := ij.x4
    obtain ⟨wa, rfl, hwa⟩ := id hW
    refine ⟨_, rfl, jv, j, nx, ny, rfl, hJ, ij, fun H1 la lvs S1 hla h1 hp1 => ?_⟩
    have hll := paired_len hp1
    rw [List.length_map, List.length_range] at hll
    refine ⟨_, rfl, la, rfl, ⟨_, SqL.of h1⟩, fun D hD => ?_⟩
    refine lc_list (K := K) (a := la) (xs := lvs) (fun i H' => ∃ kds : List Addr, H' D = some (.lst (kds.map V.ref)) ∧ kds.length = i ∧ kds.Nodup ∧ (∀ kd ∈ kds, H1 kd = none) ∧ (∀ kd ∈ kds, ∃ ep, H' kd = some (DictN P w kd [] ep)) ∧ Same H1 H')
      ⟨[], upd_same, rfl, List.nodup_nil, nofun, nofun, sm hD⟩ (fun i H' _ ⟨_, _, _, _, _, _, z⟩ => SqL.of (z _ _ h1)) ?_ ?_
    · rintro i xv H2 hx ⟨kds, h2, hl2, nd2, fr2, at2, S2⟩
      have hi4 : i < 4 := by have := (List.getElem?_eq_some_iff.mp hx).1; omega
      refine ⟨rfl, tyes fun kd ep hkd => ?_⟩
      have TK := sm (o := DictN P w kd [] ep) hkd
      have h3 := TK _ _ h2
      have nD : kd ≠ D := fun z => by rw [z, h2] at hkd; cases hkd
      have hnk : kd ∉ kds := fun z => by obtain ⟨ep', e⟩ := at2 kd z; rw [e] at hkd; cases hkd
      refine ⟨_, h3, Nat.lt_of_le_of_lt (show (kds.map V.ref).length ≤ 1000 by rw [List.length_map]; omega) (by decide), kds ++ [kd], by rw [upd_same, List.map_append]; rfl, by simp [hl2], ?_, fun k hk => ?_, fun k hk => ?_, (S2.trans TK).own hD⟩
      · rw [List.nodup_append]
        exact ⟨nd2, by simp, fun a ha b hb => by rw [List.mem_singleton.mp hb]; exact fun e => hnk (e ▸ ha)⟩
      · rcases List.mem_append.mp hk with z | z
        · exact fr2 k z
        · rw [List.mem_singleton.mp z]
          cases e : H1 kd with
          | none => rfl
          | some o => rw [S2 _ _ e] at hkd; cases hkd
      · rcases List.mem_append.mp hk with z | z
        · obtain ⟨ep', e⟩ := at2 k z
          refine ⟨ep', ?_⟩
          rw [upd_ne (fun y => by rw [y, h2] at e; cases e)]
          exact TK _ _ e
        · rw [List.mem_singleton.mp z]
          exact ⟨ep, by rw [upd_ne nD, upd_same]⟩
    · rintro H2 ⟨kds, h2, hl2, nd2, fr2, at2, S2⟩
      have S12 := S1.trans S2
      have hp2 := paired_map hp1 fun _ _ (z : RAt K H1 _ _) => z.t (Same.t S2)
      refine ⟨_, rfl, jv, j, nx, ny, rfl, hJ.t (Same.t S12), ij, fun H3 rv S3 hR3 => ?_⟩
      have S13 := S12.trans S3
      have hp3 := paired_map hp2 fun _ _ (z : RAt K H2 _ _) => z.t (Same.t S3)
      have h1' := S3 _ _ (S2 _ _ h1)
      have h2' := S3 _ _ h2
      have at3 : ∀ kd ∈ kds, ∃ ep, H3 kd = some (DictN P w kd [] ep) := fun kd hk => let ⟨ep, e⟩ := at2 kd hk; ⟨ep, S3 _ _ e⟩
      refine ⟨_, rfl, wa, rfl, ⟨_, (Same.t S13).seq hwa⟩, for_tup (K := K) (a := wa) (xs := wd.map nV) (fun t σ H' => ∃ (rv : V) (v4 v6 : Option V), σ = [some jv, some (.ref wa), some (.ref la), some (.ref D), v4, some rv, v6] ∧ RAt K H' rv (relW j (wd.take t)) ∧
          (∀ (x : Nat) kd, kds[x]? = some kd → Kn K P w H' kd (relL j x) (8 * t)) ∧ (∀ b o, H3 b = some o → b ∉ kds → H' b = some o) ∧ SameT H3 H')
        ⟨rv, _, _, rfl, hR3, fun x kd hk => ?_, fun b o h _ => h, SameT.refl H3⟩ (fun t σ H' _ ⟨_, _, _, _, _, _, _, z⟩ => ((Same.t S13).trans z).seq hwa) ?_ ?_⟩
      · obtain ⟨ep, e⟩ := at3 kd (List.mem_of_getElem? hk)
        exact ⟨[], ep, ⟨e, nofun, nofun⟩, Nat.zero_le _⟩
      · rintro t xv σ H4 hxv ⟨rv, v4, v6, rfl, hR4, hK4, E4, t4⟩
        rw [List.getElem?_map] at hxv
        obtain ⟨x, hx, rfl⟩ := Option.map_eq_some_iff.mp hxv
        have ht := (List.getElem?_eq_some_iff.mp hx).1
        have hxn := hw.2 x (List.mem_of_getElem? hx)
        have hwl := hw.1
        obtain ⟨lv, hlv, hRL⟩ := paired_at' hp3 (show ((List.range nx).map (relL j))[x]? = some (relL j x) by rw [List.getElem?_map, List.getElem?_range hxn]; rfl)
        have hxk : x < kds.length := by omega
        have hkd : kds[x]? = some kds[x] := List.getElem?_eq_getElem hxk
        have nla : la ∉ kds := fun z => by have e := fr2 la z; rw [h1] at e; cases e
        have nD : D ∉ kds := fun z => by obtain ⟨ep, e⟩ := at2 D z; rw [h2] at e; cases e
        have h1'' := E4 _ _ h1' nla
        have h2'' := E4 _ _ h2' nD
        refine ⟨_, rfl, _, rfl, _, rfl, la, lvs, _, lv, rfl, rfl, SqL.of h1'', atI_nat hlv, _, rfl, _, rfl, D, _, _, .ref kds[x], rfl, rfl, SqL.of h2'', atI_nat (by rw [List.getElem?_map, hkd]; rfl), ?_⟩
        have ok := relW_ok j (wd.take t)
        refine ⟨rv, lv, kds[x], relW j (wd.take t), relL j x, 8 * t, rfl, hR4, hRL.t t4, by rw [relL_len]; exact relL_ok j x, by rw [relL_len]; exact n8, fun S hS s hs => by rw [relL_len]; exact ok.lt S hS s hs, by rw [ok.len]; exact n8, hK4 x _ hkd, by omega, fun H5 v X5 K5 hR5 => ?_⟩
        have hext := (hK4 x _ hkd).ext
        rw [comp_letter] at hR5
        refine ⟨v, _, _, rfl, by rw [List.take_add_one, hx]; exact hR5, fun y kd hk => ?_, fun b o hb nb => ?_, t4.trans ((hK4 x _ hkd).st X5)⟩
        · by_cases e : y = x
          · subst e
            rw [hkd] at hk
            cases hk
            exact K5.mono (by rw [ok.len]; omega)
          · refine ((hK4 y kd hk).x X5 hext fun z => e ?_).mono (by omega)
            exact nodup_inj nd2 hk (by rw [z]; exact hkd)
        · exact X5 b o (E4 b o hb nb) fun z => nb (by rw [z]; exact List.getElem_mem hxk)
      · rintro σ H4 ⟨rv, v4, v6, rfl, hR4, hK4, E4, t4⟩
        rw [List.length_map, List.take_length] at hR4
        refine ⟨_, rfl, q _ _ (fun b o hb => ?_) hR4⟩
        refine E4 b o (S13 b o hb) fun z => ?_
        have e := fr2 b z
        rw [S1 _ _ hb] at e; cases e
abbrev s_is_number_below : Stmt := topS 1
abbrev N_is_number_below : List Str := ["value", "limit"]
theorem sc_is_number_below : FnScope N_is_number_below ["value", "limit"] (defScope s_is_number_below) := ⟨rfl, rfl, rfl, by decide +kernel, rfl, by decide +kernel, by decide +kernel⟩
theorem ok_is_number_below {f : Addr} {fd : FuncData} (F : Fun K "is_number_below" "is_number_below" s_is_number_below f fd) (T : Bt mg) : FnOk P w K mg base CX0 1 f fd ["value", "limit"] (spNB K) := by
  refine F.ok sc_is_number_below (fun vs H Q E h => ?_) (fun cdv A outer s H vs Q E hr h => ?_)
  · obtain ⟨p, Z, v, d, lim, rfl, _⟩ := h
    rfl
  · obtain ⟨p, Z, v, d, lim, rfl, hd, q⟩ := h
    refine ⟨_, (pss_cons (ps_if (PW.pt (pw_or (pt_val (pe_callB (isQK K) (by rfl) T.isinstance (by decide +kernel) (pa_cons (pv 0) (pa_cons (pe_bltn (v := .ty "bool") (u := .type "bool") (by rfl) T.bool (by decide +kernel) rfl) pa_nil)))) (pw_or1 (pt_not (pt_val (pe_callB (isQK K) (by rfl) T.isinstance (by decide +kernel) (pa_cons (pv 0) (pa_cons (pe_bltn (v := .ty "int") (u := .type "int") (by rfl) T.int (by decide +kernel) rfl) pa_nil))))))))
(pss_one (ps_ret pe_bl))
pss_nil)
(pss_one (ps_ret (pe_chain op_le op_lt pe_int (pv 0) (pv 1))))), ?_⟩
    refine ⟨_, rfl, isiOne hd (kit_bool d) ⟨_, rfl, ?_⟩⟩
    cases hd with
    | int i =>
      refine iteF ?_
      refine ⟨_, rfl, isiOne (K := K) (p := p) (Z := Z) (.int i) (kit_int _) ⟨_, rfl, iteF ?_⟩⟩
      refine ⟨_, rfl, _, _, rfl, rfl, _, rfl, ?_⟩
      by_cases h0 : (0 : Int) ≤ i
      · rw [decide_eq_true h0]
        refine iteT ⟨_, rfl, _, _, rfl, rfl, ?_⟩
        simp only [isNB, decide_eq_true h0, Bool.true_and] at q
        exact q
      · rw [decide_eq_false h0]
        refine iteF ?_
        simp only [isNB, decide_eq_false h0, Bool.false_and] at q
        exact q
    | bl b => exact iteT (iteT q)
    | non => exact iteF ⟨_, rfl, isiOne (K := K) (p := p) (Z := Z) .non (kit_int _) ⟨_, rfl, iteT q⟩⟩
    | str x => exact iteF ⟨_, rfl, isiOne (K := K) (p := p) (Z := Z) (.str x) (kit_int _) ⟨_, rfl, iteT q⟩⟩
    | lst h1 h2 h3 => exact iteF ⟨_, rfl, isiOne (K := K) (p := p) (Z := Z) (.lst h1 h2 h3) (kit_int _) ⟨_, rfl, iteT q⟩⟩
    | tup h1 h2 => exact iteF ⟨_, rfl, isiOne (K := K) (p := p) (Z := Z) (.tup h1 h2) (kit_int _) ⟨_, rfl, iteT q⟩⟩
    | dic0 h1 h2 => exact iteF ⟨_, rfl, isiOne (K := K) (p := p) (Z := Z) (.dic0 h1 h2) (kit_int _) ⟨_, rfl, iteT q⟩⟩
    | dic1 h1 h2 h3 => exact iteF ⟨_, rfl, isiOne (K := K) (p := p) (Z := Z) (.dic1 h1 h2 h3) (kit_int _) ⟨_, rfl, iteT q⟩⟩
    | dicA h1 h2 h3 => exact iteF ⟨_, rfl, isiOne (K := K) (p := p) (Z := Z) (.dicA h1 h2 h3) (kit_int _) ⟨_, rfl, iteT q⟩⟩
abbrev s_input_count : Stmt := topS 3
abbrev N_input_count : List Str := ["judge"]
theorem sc_input_count : FnScope N_input_count ["judge"] (defScope s_input_count) := ⟨rfl, rfl, rfl, by decide +kernel, rfl, by decide +kernel, by decide +kernel⟩
theorem ok_input_count {f : Addr} {fd : FuncData} (F : Fun K "input_count" "input_count" s_input_count f fd) (T : Bt mg) : FnOk P w K mg base CX0 1 f fd ["judge"] (spInC K) := by
  refine F.ok sc_input_count (fun vs H Q E h => ?_) (fun cdv A outer s H vs Q E hr h => ?_)
  · obtain ⟨v, j, nx, ny, rfl, _⟩ := h
    rfl
  · obtain ⟨v, j, nx, ny, rfl, hJ, ij, q⟩ := h
    refine ⟨_, (pss_one (ps_ret (pe_callB (lenK K) (by rfl) T.len PySem.boot_len (pa_cons (pe_ix (ixTK K) (pv 0) pe_int (fun _ _ => rfl)) pa_nil)))), ?_⟩
    obtain ⟨a, b, c, us, ws, r, rfl, h1, h2, h3, h4, h5, h6, h7⟩ := hJ.first ij
    refine ⟨_, rfl, a, us, _, .ref b, rfl, rfl, h1, atI_nat (j := 0) h2, b, ws, rfl, .inr h3, ?_⟩
    rw [h4]; exact q
abbrev s_is_tuple_of_numbers : Stmt := topS 4
abbrev N_is_tuple_of_numbers : List Str := ["value", "limit", "number"]
theorem sc_is_tuple_of_numbers : FnScope N_is_tuple_of_numbers ["value", "limit"] (defScope s_is_tuple_of_numbers) := ⟨rfl, rfl, rfl, by decide +kernel, rfl, by decide +kernel, by decide +kernel⟩
theorem ok_is_tuple_of_numbers {f : Addr} {fd : FuncData} (F : Fun K "is_tuple_of_numbers" "is_tuple_of_numbers" s_is_tuple_of_numbers f fd) (T : Bt mg) (c_is_number_below : Cal P w K mg base 1 "is_number_below" (spNB K) []) : FnOk P w K mg base CX0 2 f fd ["value", "limit"] (spLet K) := by
  refine F.ok sc_is_tuple_of_numbers (fun vs H Q E h => ?_) (fun cdv A outer s H vs Q E hr h => ?_)
  · obtain ⟨p, Z, v, d, lim, rfl, _⟩ := h
    rfl
  · obtain ⟨p, Z, v, d, lim, rfl, hd, hz, q⟩ := h
    refine ⟨_, (pss_one (ps_ret (pe_and (pe_callB (isQK K) (by rfl) T.isinstance (by decide +kernel) (pa_cons (pv 0) (pa_cons (pe_bltn (v := .ty "tuple") (u := .type "tuple") (by rfl) T.tuple (by decide +kernel) rfl) pa_nil))) (pe_one (pe_callB (cr_all rfl) (by rfl) T.all (by decide +kernel) (pa_cons (pe_lc (own := [("number", 2)]) (g := (gName 2)) (tt := tYes) rfl sc_is_tuple_of_numbers.nd (piTK K (pv 0)) (blkOk_by (N := N_is_tuple_of_numbers) (sc := defScope s_is_tuple_of_numbers) (by decide +kernel)) (fun _ _ _ _ _ => (pg_name (i := 2) sc_is_tuple_of_numbers.nd rfl (Or.inl rfl))) (fun _ _ _ _ _ => pts_nil) (fun _ _ _ _ _ => (pe_c c_is_number_below hr (by decide) rfl (pa_cons (pv 2) (pa_cons (pv 1) pa_nil))))) pa_nil)))))), ?_⟩
    refine ⟨_, rfl, isiOne hd (kit_tup d) ⟨_, rfl, ?_⟩⟩
    rcases nonTup hd with e | ⟨a, xs, ds, rfl, rfl, hT, hA⟩
    · rw [e]
      refine iteF ?_
      have : isLet lim d = false := by cases d <;> first | rfl | cases e
      rw [← this]; exact q H (Same.refl H)
    refine iteT ?_
    refine ⟨_, rfl, a, rfl, ⟨_, hT⟩, fun D hD => ?_⟩
    refine lc_tup (K := K) (a := a) (xs := xs) (fun i H' => H' D = some (.lst (((ds.take i).map (isNB lim)).map V.bl)) ∧ Same H H') ⟨upd_same, (Same.refl H).new hD⟩ (fun i H' _ ⟨_, z⟩ => (Same.t z).seq hT) ?_ ?_
    · rintro i x H1 hx ⟨h1, S1⟩
      obtain ⟨dx, e1, e2⟩ := (hA.same S1).get hx
      refine ⟨rfl, tyes ?_⟩
      refine ⟨_, rfl, _, rfl, p, Z, x, dx, lim, rfl, e2, _, h1, ?_, ?_, S1.own hD⟩
      · exact takeLt hz
      · rw [upd_same, List.take_add_one, e1]; simp
    · rintro H1 ⟨h1, S1⟩
      rw [hA.len, List.take_length] at h1
      refine ⟨D, _, rfl, SqL.of h1, ?_⟩
      have e : ((ds.map (isNB lim)).all id) = isLet lim (.tuple ds) := by simp [isLet]
      rw [e]; exact q H1 S1
abbrev s_is_tuple_of_length : Stmt := topS 2
abbrev N_is_tuple_of_length : List Str := ["value", "length"]
theorem sc_is_tuple_of_length : FnScope N_is_tuple_of_length ["value", "length"] (defScope s_is_tuple_of_length) := ⟨rfl, rfl, rfl, by decide +kernel, rfl, by decide +kernel, by decide +kernel⟩
theorem ok_is_tuple_of_length {f : Addr} {fd : FuncData} (F : Fun K "is_tuple_of_length" "is_tuple_of_length" s_is_tuple_of_length f fd) (T : Bt mg) : FnOk P w K mg base CX0 1 f fd ["value", "length"] (spTL K) := by
  refine F.ok sc_is_tuple_of_length (fun vs H Q E h => ?_) (fun cdv A outer s H vs Q E hr h => ?_)
  · obtain ⟨p, Z, v, d, n, rfl, _⟩ := h
    rfl
  · obtain ⟨p, Z, v, d, n, rfl, hd, q⟩ := h
    refine ⟨_, (pss_one (ps_ret (pe_and (pe_callB (isQK K) (by rfl) T.isinstance (by decide +kernel) (pa_cons (pv 0) (pa_cons (pe_bltn (v := .ty "tuple") (u := .type "tuple") (by rfl) T.tuple (by decide +kernel) rfl) pa_nil))) (pe_one (pe_cmpR op_eq (pe_callB (lenK K) (by rfl) T.len PySem.boot_len (pa_cons (pv 0) pa_nil)) (pv 1) (nomark _)))))), ?_⟩
    refine ⟨_, rfl, isiOne hd (kit_tup d) ⟨_, rfl, ?_⟩⟩
    rcases nonTup hd with e | ⟨a, xs, ds, rfl, rfl, hT, hA⟩
    · rw [e]
      refine iteF ?_
      have : isTL n d = false := by cases d <;> first | rfl | cases e
      rw [← this]; exact q
    refine iteT ?_
    have hl := hA.len
    refine ⟨_, rfl, a, xs, rfl, .inr hT, _, rfl, rfl, ?_⟩
    have e : isTL n (.tuple ds) = decide (V.int ((xs.length : Nat) : Int) = V.int (n : Int)) := by
      unfold isTL
      rw [hl]
      exact decide_eq_decide.mpr ⟨fun z => by rw [z], fun z => by injection z with z; omega⟩
    rw [e] at q
    exact q
end
end LA

set_option maxHeartbeats 4000000
namespace LA
open PySem PySem.Spec PyProof.Rows L2
open C8 (Cal pe_c)
section
variable {P : Program} {w : World} {K : PySem.W.Frag} {mg : Str → Option Value} {base : Heap}
abbrev s_is_loop_word : Stmt := topS 13
abbrev N_is_loop_word : List Str := ["judge", "value"]
theorem sc_is_loop_word : FnScope N_is_loop_word ["judge", "value"] (defScope s_is_loop_word) := ⟨rfl, rfl, rfl, by decide +kernel, rfl, by decide +kernel, by decide +kernel⟩
theorem ok_is_loop_word {f : Addr} {fd : FuncData} (F : Fun K "is_loop_word" "is_loop_word" s_is_loop_word f fd) (T : Bt mg) (gl : ∃ tk, mg "LONGEST_LOOP_WORD" = some (Value.int 2000 tk)) (c_input_count : Cal P w K mg base 1 "input_count" (spInC K) []) (c_is_tuple_of_numbers : Cal P w K mg base 2 "is_tuple_of_numbers" (spLet K) []) : FnOk P w K mg base CX0 3 f fd ["judge", "value"] (spLoopWd K) := by
  refine F.ok sc_is_loop_word (fun vs H Q E h => ?_) (fun cdv A outer s H vs Q E hr h => ?_)
  · obtain ⟨p, Z, jv, v, d, j, nx, ny, rfl, _⟩ := h
    rfl
  · obtain ⟨p, Z, jv, v, d, j, nx, ny, rfl, hJ, ij, hd, hz, q0⟩ := h
    have hu64 := hr.units
    obtain ⟨tk, g_LONGEST_LOOP_WORD⟩ := gl
    refine ⟨_, (pss_one (ps_ret (pe_and (pe_c c_is_tuple_of_numbers hr (by decide) rfl (pa_cons (pv 1) (pa_cons (pe_c c_input_count hr (by decide) rfl (pa_cons (pv 0) pa_nil)) pa_nil))) (pe_one (pe_cmpR op_le (pe_callB (lenK K) (by rfl) T.len PySem.boot_len (pa_cons (pv 1) pa_nil)) (pe_glob (v := .int 2000) (by rfl) g_LONGEST_LOOP_WORD ⟨_, rfl⟩) (nomark _)))))), ?_⟩
    refine ⟨_, rfl, _, rfl, jv, j, nx, ny, rfl, hJ, ij, ?_⟩
    refine ⟨p, Z, v, d, nx, rfl, hd, by omega, fun H2 S2 => ⟨_, rfl, ?_⟩⟩
    cases h1 : isLet nx d with
    | false =>
      refine iteF ?_
      have : lwB nx d = false := by unfold lwB; rw [h1]; rfl
      rw [← this]; exact q0 _ S2
    | true =>
      refine iteT ?_
      obtain ⟨⟨a, rfl, ha⟩, _⟩ := let_word hd h1 hz
      have hl : (((parts d).map natD).map nV).length = (parts d).length := by simp
      refine ⟨_, rfl, a, _, rfl, .inr ((Same.t S2).seq ha), _, _, rfl, rfl, ?_⟩
      have : lwB nx d = decide (((((parts d).map natD).map nV).length : Int) ≤ 2000) := by
        unfold lwB
        rw [h1, hl, Bool.true_and]
        exact decide_eq_decide.mpr (by omega)
      have q := q0 _ S2
      rw [this] at q
      exact q
abbrev s_is_loop : Stmt := topS 14
abbrev N_is_loop : List Str := ["judge", "value", "word", "u", "v", "w"]
theorem sc_is_loop : FnScope N_is_loop ["judge", "value"] (defScope s_is_loop) := ⟨rfl, rfl, rfl, by decide +kernel, rfl, by decide +kernel, by decide +kernel⟩
theorem ok_is_loop {f : Addr} {fd : FuncData} (F : Fun K "is_loop" "is_loop" s_is_loop f fd) (T : Bt mg) (c_is_tuple_of_length : Cal P w K mg base 1 "is_tuple_of_length" (spTL K) []) (c_is_loop_word : Cal P w K mg base 3 "is_loop_word" (spLoopWd K) []) (c_relation_of : Cal P w K mg base 3 "relation_of" (spRelOf K) []) : FnOk P w K mg base CX0 4 f fd ["judge", "value"] (spIsLoop K) := by
  refine F.ok sc_is_loop (fun vs H Q E h => ?_) (fun cdv A outer s H vs Q E hr h => ?_)
  · obtain ⟨p, Z, jv, v, d, j, nx, ny, rfl, _⟩ := h
    rfl
  · obtain ⟨p, Z, jv, v, d, j, nx, ny, rfl, hJ, ij, hd, hz, q0⟩ := h
    have hu64 := hr.units
    refine ⟨_, (pss_cons (ps_if (PW.pt (pw_or (pt_not (pt_val (pe_c c_is_tuple_of_length hr (by decide) rfl (pa_cons (pv 1) (pa_cons pe_int pa_nil))))) (pw_or1 (pt_not (pt_val (pe_callB (cr_all rfl) (by rfl) T.all (by decide +kernel) (pa_cons (pe_lc (own := [("word", 2)]) (g := (gName 2)) (tt := tYes) rfl sc_is_loop.nd (piTK K (pv 1)) (blkOk_by (N := N_is_loop) (sc := defScope s_is_loop) (by decide +kernel)) (fun _ _ _ _ _ => (pg_name (i := 2) sc_is_loop.nd rfl (Or.inl rfl))) (fun _ _ _ _ _ => pts_nil) (fun _ _ _ _ _ => (pe_c c_is_loop_word hr (by decide) rfl (pa_cons (pv 0) (pa_cons (pv 2) pa_nil))))) pa_nil)))))))
(pss_one (ps_ret pe_bl))
pss_nil)
(pss_cons (ps_asg (pv 1) (pg_tup rfl (pgs_cons (pg_name (i := 3) sc_is_loop.nd rfl (Or.inl rfl)) (pgs_cons (pg_name (i := 4) sc_is_loop.nd rfl (Or.inl rfl)) (pgs_cons (pg_name (i := 5) sc_is_loop.nd rfl (Or.inl rfl)) pgs_nil)))))
(pss_one (ps_ret (pe_and (pe_cmpR (neDK K hu64) (pv 4) (pe_tup pa_nil) (nomark _)) (pe_one (pe_cmpR (eqDK K hu64) (pe_c c_relation_of hr (by decide) rfl (pa_cons (pv 0) (pa_cons (pv 3) pa_nil))) (pe_c c_relation_of hr (by decide) rfl (pa_cons (pv 0) (pa_cons (pe_op (catK K) (pv 3) (pv 4)) pa_nil))) (nomark _)))))))), ?_⟩
    refine ⟨_, rfl, p, Z, v, d, 3, rfl, hd, ⟨_, rfl, ?_⟩⟩
    cases h3 : isTL 3 d with
    | false =>
      refine iteT ?_
      have : lpB j nx d = false := by
        cases d with
        | tuple ds =>
          match ds, h3 with
          | [], _ => rfl
          | [_], _ => rfl
          | [_, _], _ => rfl
          | [a, b, c], h3 => simp [isTL] at h3
          | _ :: _ :: _ :: _ :: _, _ => rfl
        | _ => rfl
      exact this ▸ q0 H (Same.refl H)
    | true =>
      refine iteF ?_
      obtain ⟨a, x1, x2, x3, d1, d2, d3, rfl, rfl, hT, e1, e2, e3⟩ := tl3 hd h3
      obtain ⟨z1, z2, z3⟩ := tl3_sz hz
      refine ⟨_, rfl, a, rfl, ⟨_, hT⟩, fun D hD => ?_⟩
      refine lc_tup (K := K) (a := a) (xs := [x1, x2, x3]) (fun i H' => H' D = some (.lst ((([d1, d2, d3].take i).map (lwB nx)).map V.bl)) ∧ Same H H') ⟨upd_same, (Same.refl H).new hD⟩ (fun i H' _ ⟨_, z⟩ => (Same.t z).seq hT) ?_ ?_
      · rintro i x H1 hx ⟨h1, S1⟩
        obtain ⟨dx, f1, f2, f3⟩ : ∃ dx, [d1, d2, d3][i]? = some dx ∧ Dq K p Z H x dx ∧ szD dx ≤ 100000 := by
          match i, hx with
          | 0, hx => cases hx; exact ⟨d1, rfl, e1, z1⟩
          | 1, hx => cases hx; exact ⟨d2, rfl, e2, z2⟩
          | 2, hx => cases hx; exact ⟨d3, rfl, e3, z3⟩
        refine ⟨rfl, tyes ?_⟩
        refine ⟨_, rfl, _, rfl, p, Z, jv, x, dx, j, nx, ny, rfl, hJ.t (Same.t S1), ij, f2.same S1, f3, fun H2 S2 => ⟨_, S2 _ _ h1, ?_, ?_, (S1.trans S2).own hD⟩⟩
        · exact szl (by simp; omega)
        · rw [upd_same, List.take_add_one, f1]; simp
      rintro H1 ⟨h1, S1⟩
      refine ⟨D, _, rfl, SqL.of h1, ⟨_, rfl, ?_⟩⟩
      rw [show ([d1, d2, d3].take [x1, x2, x3].length).map (lwB nx) = [lwB nx d1, lwB nx d2, lwB nx d3] from rfl]
      have ee : ([lwB nx d1, lwB nx d2, lwB nx d3].all id) = (lwB nx d1 && lwB nx d2 && lwB nx d3) := by simp [Bool.and_assoc]
      rw [ee]
      cases hw : (lwB nx d1 && lwB nx d2 && lwB nx d3) with
      | false =>
        refine iteT ?_
        have : lpB j nx (.tuple [d1, d2, d3]) = false := by
          rw [lpB_eq, hw]; rfl
        exact this ▸ q0 H1 S1
      | true =>
        have elp : lpB j nx (.tuple [d1, d2, d3]) = (!decide ((parts d2).map natD = []) && decide (relW j ((parts d1).map natD) = relW j ((parts d1).map natD ++ (parts d2).map natD))) := by
          rw [lpB_eq, hw]; simp
        rw [Bool.and_eq_true, Bool.and_eq_true] at hw
        obtain ⟨⟨w1, w2⟩, w3⟩ := hw
        obtain ⟨a1, b1, c1⟩ := lwB_word (e1.same S1) w1 z1
        obtain ⟨a2, b2, c2⟩ := lwB_word (e2.same S1) w2 z2
        obtain ⟨a3, b3, c3⟩ := lwB_word (e3.same S1) w3 z3
        rw [elp] at q0
        generalize (parts d1).map natD = u at *
        generalize (parts d2).map natD = v at *
        generalize (parts d3).map natD = ww at *
        refine iteF ?_
        refine ⟨_, rfl, a, _, rfl, (Same.t S1).seq hT, rfl, _, _, rfl, _, _, rfl, _, _, rfl, rfl, ?_⟩
        refine ⟨_, rfl, szl (by simp), fun e he => ⟨wD v, .tuple [], (a2.t (Same.t (sm he))).dp, .tup (SqT.of upd_same) .nil, wD_shaped v, by decide, _, rfl, ?_⟩⟩
        have SE := sm (o := .tup []) he
        have S2 := S1.trans SE
        have a1 := a1.t (Same.t SE)
        have a2 := a2.t (Same.t SE)
        generalize upd H1 e (.tup []) = H2 at S2 a1 a2
        clear SE he
        rw [show PyData.eqv (wD v) (.tuple []) = decide (v = []) from wD_eqv v []]
        cases hv : decide (v = []) with
        | true =>
          rw [hv] at q0
          exact q0 H2 S2
        | false =>
          rw [hv] at q0
          refine iteT ?_
          refine ⟨_, rfl, _, rfl, jv, x1, j, nx, ny, u, rfl, hJ.t (Same.t S2), ij, a1, b1, fun H3 r1 S3 hr1 => ?_⟩
          refine ⟨_, rfl, _, rfl, _, rfl, cat_words (a1.t (Same.t S3)) (a2.t (Same.t S3)) (by omega) fun H4 z S4 hz4 => ⟨jv, z, j, nx, ny, u ++ v, rfl, hJ.t (Same.t (S2.trans (S3.trans S4))), ij, hz4, b1.app b2 (by omega), fun H5 r2 S5 hr2 => ⟨relD _, relD _, (hr1.t (Same.t (S4.trans S5))).dp, hr2.dp, shp_rel (relW_ok j u) ij.n8, shp_rel (relW_ok j _) ij.n8, ?_⟩⟩⟩
          rw [eqv_rel]
          exact q0 H5 (S2.trans (S3.trans (S4.trans S5)))
abbrev s_relation_of_loop : Stmt := topS 15
abbrev N_relation_of_loop : List Str := ["judge", "loop", "u", "v", "w"]
theorem sc_relation_of_loop : FnScope N_relation_of_loop ["judge", "loop"] (defScope s_relation_of_loop) := ⟨rfl, rfl, rfl, by decide +kernel, rfl, by decide +kernel, by decide +kernel⟩
theorem ok_relation_of_loop {f : Addr} {fd : FuncData} (F : Fun K "relation_of_loop" "relation_of_loop" s_relation_of_loop f fd) (T : Bt mg) (c_relation_of : Cal P w K mg base 3 "relation_of" (spRelOf K) []) : FnOk P w K mg base CX0 4 f fd ["judge", "loop"] (spLpRel K) := by
  refine F.ok sc_relation_of_loop (fun vs H Q E h => ?_) (fun cdv A outer s H vs Q E hr h => ?_)
  · obtain ⟨p, Z, jv, v, d, j, nx, ny, rfl, _⟩ := h
    rfl
  · obtain ⟨p, Z, jv, v, d, j, nx, ny, rfl, hJ, ij, hd, hz, hl, q0⟩ := h
    have hu64 := hr.units
    refine ⟨_, (pss_cons (ps_asg (pv 1) (pg_tup rfl (pgs_cons (pg_name (i := 2) sc_relation_of_loop.nd rfl (Or.inl rfl)) (pgs_cons (pg_name (i := 3) sc_relation_of_loop.nd rfl (Or.inl rfl)) (pgs_cons (pg_name (i := 4) sc_relation_of_loop.nd rfl (Or.inl rfl)) pgs_nil)))))
(pss_one (ps_ret (pe_c c_relation_of hr (by decide) rfl (pa_cons (pv 0) (pa_cons (pe_op (catK K) (pv 2) (pv 4)) pa_nil)))))), ?_⟩
    have hl' := hl
    cases d with
    | tuple ds =>
      match ds, hl with
      | [d1, d2, d3], hl =>
        obtain ⟨a, x1, x2, x3, d1', d2', d3', rfl, ed, hT, e1, e2, e3⟩ := tl3 hd rfl
        cases ed
        obtain ⟨z1, z2, z3⟩ := tl3_sz hz
        rw [lpB_eq] at hl
        simp only [Bool.and_eq_true] at hl
        obtain ⟨⟨⟨⟨w1, w2⟩, w3⟩, _⟩, _⟩ := hl
        obtain ⟨a1, b1, c1⟩ := lwB_word e1 w1 z1
        obtain ⟨a3, b3, c3⟩ := lwB_word e3 w3 z3
        refine ⟨_, rfl, a, _, rfl, hT, rfl, _, _, rfl, _, _, rfl, _, _, rfl, rfl, ?_⟩
        refine ⟨_, rfl, _, rfl, _, rfl, cat_words a1 a3 (by omega) fun H4 z S4 hz4 => ⟨jv, z, j, nx, ny, _, rfl, hJ.t (Same.t S4), ij, hz4, b1.app b3 (by omega), fun H5 r2 S5 hr2 => q0 H5 r2 (S4.trans S5) hr2⟩⟩
      | [], hl => cases hl
      | [_], hl => cases hl
      | [_, _], hl => cases hl
      | _ :: _ :: _ :: _ :: _, hl => cases hl
    | _ => cases hl
end
end LA

set_option maxHeartbeats 4000000
namespace LA
open PySem PySem.Spec PyProof.Rows L2
open C8 (Cal pe_c)
section
variable {P : Program} {w : World} {K : PySem.W.Frag} {mg : Str → Option Value} {base : Heap}
abbrev s_is_certificate_row : Stmt := topS 17
abbrev N_is_certificate_row : List Str := ["judge", "blocks", "value", "state", "block", "later"]
theorem sc_is_certificate_row : FnScope N_is_certificate_row ["judge", "blocks", "value"] (defScope s_is_certificate_row) := ⟨rfl, rfl, rfl, by decide +kernel, rfl, by decide +kernel, by decide +kernel⟩
theorem ok_is_certificate_row {f : Addr} {fd : FuncData} (F : Fun K "is_certificate_row" "is_certificate_row" s_is_certificate_row f fd) (T : Bt mg) (c_is_tuple_of_length : Cal P w K mg base 1 "is_tuple_of_length" (spTL K) []) (c_is_number_below : Cal P w K mg base 1 "is_number_below" (spNB K) []) : FnOk P w K mg base CX0 2 f fd ["judge", "blocks", "value"] (spCRow K) := by
  refine F.ok sc_is_certificate_row (fun vs H Q E h => ?_) (fun cdv A outer s H vs Q E hr h => ?_)
  · obtain ⟨p, Z, jv, v, d, j, b, rfl, _⟩ := h
    rfl
  · obtain ⟨p, Z, jv, v, d, j, b, rfl, hJ, hd, q⟩ := h
    have hu64 := hr.units
    refine ⟨_, (pss_cons (ps_if (pt_not (pt_val (pe_c c_is_tuple_of_length hr (by decide) rfl (pa_cons (pv 2) (pa_cons pe_int pa_nil)))))
(pss_one (ps_ret pe_bl))
pss_nil)
(pss_cons (ps_asg (pv 2) (pg_tup rfl (pgs_cons (pg_name (i := 3) sc_is_certificate_row.nd rfl (Or.inl rfl)) (pgs_cons (pg_name (i := 4) sc_is_certificate_row.nd rfl (Or.inl rfl)) (pgs_cons (pg_name (i := 5) sc_is_certificate_row.nd rfl (Or.inl rfl)) pgs_nil)))))
(pss_one (ps_ret (pe_and (pe_c c_is_number_below hr (by decide) rfl (pa_cons (pv 3) (pa_cons (pe_callB (lenK K) (by rfl) T.len PySem.boot_len (pa_cons (pv 0) pa_nil)) pa_nil))) (pe_and (pe_c c_is_number_below hr (by decide) rfl (pa_cons (pv 4) (pa_cons (pv 1) pa_nil))) (pe_one (pe_c c_is_number_below hr (by decide) rfl (pa_cons (pv 5) (pa_cons (pv 1) pa_nil)))))))))), ?_⟩
    rw [show L2.start N_is_certificate_row [jv, .int (b : Int), v] = [some jv, some (.int (b : Int)), some v, none, none, none] from rfl]
    obtain ⟨ja, jvs, rfl, hja, hjl⟩ := hJ.size
    refine ⟨_, rfl, p, Z, v, d, 3, rfl, hd, _, rfl, ?_⟩
    rcases tl_of (n := 3) hd with e | ⟨e, a, xs, ds, rfl, rfl, hl, hxs, hda⟩
    · rw [e]
      refine iteT ?_
      rw [isRowD_no e] at q
      exact q
    · rw [e]
      refine iteF (goNext ?_)
      obtain ⟨d1, d2, d3, rfl⟩ : ∃ d1 d2 d3, ds = [d1, d2, d3] := by
        match ds, hl with
        | [a, b, c], _ => exact ⟨a, b, c, rfl⟩
      obtain ⟨v1, xs1, rfl, h1, hda1⟩ := dqAll_cons hda
      obtain ⟨v2, xs2, rfl, h2, hda2⟩ := dqAll_cons hda1
      obtain ⟨v3, xs3, rfl, h3, hda3⟩ := dqAll_cons hda2
      cases hda3
      rw [isRowD_three] at q
      refine ⟨_, rfl, a, _, rfl, hxs, rfl, _, _, rfl, _, _, rfl, _, _, rfl, rfl, ?_⟩
      try dsimp only [L2.gName, List.set_cons_succ, List.set_cons_zero]
      refine ⟨_, rfl, _, rfl, ja, jvs, rfl, .inr hja, p, Z, v1, d1, (jvs.length : Int), rfl, h1, _, rfl, ?_⟩
      rw [show (jvs.length : Int) = (j.length : Int) by rw [hjl]]
      cases hb : isNB (j.length : Int) d1 with
      | false =>
        refine iteF ?_
        rw [hb, Bool.false_and] at q
        exact q
      | true =>
        refine iteT ?_
        rw [hb, Bool.true_and] at q
        refine ⟨_, rfl, _, rfl, p, Z, v2, d2, (b : Int), rfl, h2, _, rfl, ?_⟩
        cases hb2 : isNB (b : Int) d2 with
        | false =>
          refine iteF ?_
          rw [hb2, Bool.false_and] at q
          exact q
        | true =>
          refine iteT ?_
          rw [hb2, Bool.true_and] at q
          exact ⟨_, rfl, _, rfl, p, Z, v3, d3, (b : Int), rfl, h3, q⟩
end
end LA

set_option maxHeartbeats 4000000
namespace LA
open PySem PySem.Spec PyProof.Rows L2
open C8 (Cal pe_c)
section
variable {P : Program} {w : World} {K : PySem.W.Frag} {mg : Str → Option Value} {base : Heap}
abbrev s_are_rows_in_order : Stmt := topS 18
abbrev N_are_rows_in_order : List Str := ["relations", "rows", "earlier", "state", "block", "later", "goal"]
theorem sc_are_rows_in_order : FnScope N_are_rows_in_order ["relations", "rows"] (defScope s_are_rows_in_order) := ⟨rfl, rfl, rfl, by decide +kernel, rfl, by decide +kernel, by decide +kernel⟩
theorem ok_are_rows_in_order {f : Addr} {fd : FuncData} (F : Fun K "are_rows_in_order" "are_rows_in_order" s_are_rows_in_order f fd) (T : Bt mg) : FnOk P w K mg base CX0 1 f fd ["relations", "rows"] (spROrd K P w) := by
  refine F.ok sc_are_rows_in_order (fun vs H Q E h => ?_) (fun cdv A outer s H vs Q E hr h => ?_)
  · obtain ⟨la, a, lvs, rs, us, ws, n, rfl, _⟩ := h
    rfl
  · obtain ⟨la, a, lvs, rs, us, ws, n, rfl, hl, hlp, ha, hp, gm, hws, hul, n8, k⟩ := h
    have hu64 := hr.units
    refine ⟨_, (pss_cons (ps_set (i := 2) sc_are_rows_in_order.nd rfl (Or.inr rfl) (pe_dnewN P w))
(pss_cons (ps_for PassesOwn.never rfl (piTK K (pv 1)) (pg_tup rfl (pgs_cons (pg_name (i := 3) sc_are_rows_in_order.nd rfl (Or.inl rfl)) (pgs_cons (pg_name (i := 4) sc_are_rows_in_order.nd rfl (Or.inl rfl)) (pgs_cons (pg_name (i := 5) sc_are_rows_in_order.nd rfl (Or.inr rfl)) pgs_nil))))
(pss_cons (ps_if (pt_not (pt_val (pe_callB (allK K) (by rfl) T.all (by decide +kernel) (pa_cons (pe_lc (own := [("goal", 6)]) (g := (gName 6)) (tt := tYes) rfl sc_are_rows_in_order.nd (piTK K (pe_ix (ixTK K) (pe_ix (ixLK K) (pv 0) (pv 4) (fun _ _ => rfl)) (pv 3) (fun _ _ => rfl))) (blkOk_by (N := N_are_rows_in_order) (sc := defScope s_are_rows_in_order) (by decide +kernel)) (fun _ _ _ _ _ => (pg_name (i := 6) sc_are_rows_in_order.nd rfl (Or.inl rfl))) (fun _ _ _ _ _ => pts_nil) (fun _ _ _ _ _ => (pe_cmpR (inNK K P w hu64) (pe_tup (pa_cons (pv 6) (pa_cons (pv 5) pa_nil))) (pv 2) rfl))) pa_nil))))
(pss_one (ps_ret pe_bl))
pss_nil)
(pss_one (ps_asg pe_bl (pg_sub (pv 2) (pe_tup (pa_cons (pv 3) (pa_cons (pv 4) pa_nil))) (setNK K P w hu64))))))
(pss_one (ps_ret pe_bl)))), ?_⟩
    rw [show L2.start N_are_rows_in_order [V.ref la, .ref a] = [some (.ref la), some (.ref a), none, none, none, none, none] from rfl]
    refine fun dd ep0 hdd => ?_
    have TD := sm (o := DictN P w dd [] ep0) hdd
    have E0 : ErD K P w (upd H dd (DictN P w dd [] ep0)) dd [] [] ep0 := ⟨upd_same, nofun, fun x y => ⟨fun ⟨_, h, _⟩ => (by cases h), fun h => (by cases h)⟩, Nat.le_refl _⟩
    generalize upd H dd (DictN P w dd [] ep0) = H0 at TD E0
    have hwl := paired_len hp
    try dsimp only [L2.gName, List.set_cons_succ, List.set_cons_zero]
    refine ⟨_, rfl, a, rfl, ⟨_, (Same.t TD).seq ha⟩, for_tup (K := K) (a := a) (xs := us) (fun i σ H' => ∃ (v3 v4 v5 v6 : Option V) (L : List DnE) (ep : Nat), σ = [some (.ref la), some (.ref a), some (.ref dd), v3, v4, v5, v6] ∧ ErD K P w H' dd ((ws.take i).map fun q => (q.1, q.2.1)) L ep ∧ (∀ k r, k < i → ws[k]? = some r → rowOk rs ((ws.take k).map fun q => (q.1, q.2.1)) r = true) ∧ Same H H') ⟨_, _, _, _, _, _, rfl, E0, fun _ _ h => absurd h (Nat.not_lt_zero _), TD⟩ (fun i σ H' _ ⟨_, _, _, _, _, _, _, _, _, z⟩ => (Same.t z).seq ha) ?_ ?_⟩
    · rintro i x σ H1 hx ⟨v3, v4, v5, v6, L, ep, rfl, E1, hall, S1⟩
      obtain ⟨⟨s, b, l⟩, hwi, t, rfl, hT0⟩ := paired_at hp hx
      obtain ⟨hsn, hbn, hln⟩ := hws _ (List.mem_of_getElem? hwi)
      have hT := (Same.t S1).seq hT0
      obtain ⟨rv, hrv, hR⟩ := paired_at' hlp (i := b) (y := rs.getD b []) (by rw [List.getD_eq_getElem?_getD, List.getElem?_eq_getElem hbn]; rfl)
      have hrm : rs.getD b [] ∈ rs := by rw [List.getD_eq_getElem?_getD, List.getElem?_eq_getElem hbn]; exact List.getElem_mem _
      have hrl := (gm _ hrm).len
      obtain ⟨ra, gvs, rfl, hra0, hgp⟩ := hR.t (Same.t S1)
      generalize hr0 : rs.getD b [] = r at *
      have hgs : r[s]? = some (r.getD s []) := by
        rw [List.getD_eq_getElem?_getD, List.getElem?_eq_getElem (show s < r.length by rw [hrl]; exact hsn)]; rfl
      obtain ⟨gv, hgv, ga, rfl, hga⟩ := paired_at' hgp hgs
      generalize hG : r.getD s [] = G at *
      refine ⟨t, _, rfl, hT, rfl, _, _, rfl, _, _, rfl, _, _, rfl, rfl, ?_⟩
      try dsimp only [L2.gName, List.set_cons_succ, List.set_cons_zero]
      refine ⟨_, rfl, _, rfl, la, lvs, _, .ref ra, rfl, rfl, SqL.of (S1 _ _ hl), atI_nat (j := b) hrv, _, rfl, ra, gvs, _, .ref ga, rfl, rfl, hra0, atI_nat (j := s) hgv, ga, rfl, ⟨_, hga⟩, fun D hD => ?_⟩
      have hLl := E1.len
      rw [List.length_map, List.length_take] at hLl
      generalize hseen : ((ws.take i).map fun q => (q.1, q.2.1)) = seen at *
      have hGl : G.length ≤ n := goals_le (gm _ hrm) (by rw [← hG]; exact List.mem_of_getElem? (hG ▸ hgs))
      refine lc_tup (K := K) (a := ga) (xs := G.map nV) (fun i H' => H' D = some (.lst (((G.take i).map fun g => decide ((g, l) ∈ seen)).map V.bl)) ∧ Same H1 H') ⟨upd_same, sm hD⟩ (fun i H' _ ⟨_, z⟩ => (Same.t z).seq hga) ?_ ?_
      · rintro e x H2 hx2 ⟨h2, S2⟩
        obtain ⟨g, hgi, rfl⟩ : ∃ g, G[e]? = some g ∧ nV g = x := by
          rw [List.getElem?_map] at hx2
          exact Option.map_eq_some_iff.mp hx2
        have tk : G.take (e + 1) = G.take e ++ [g] := by rw [List.take_succ, hgi]; rfl
        refine ⟨rfl, tyes ?_⟩
        refine ⟨_, rfl, _, rfl, szl (by simp), fun t10 ht10 => ?_⟩
        have T10 := sm (o := .tup [nV g, nV l]) ht10
        have k10 : NkV K (upd H2 t10 (.tup [nV g, nV l])) (.ref t10) (wK [g, l]) := w_key ⟨t10, rfl, SqT.of upd_same⟩
        have E10 := E1.same (S2.trans T10)
        refine ⟨_, rfl, dd, t10, L, wK [g, l], ep, rfl, rfl, E10.at_, E10.keys, k10, wK_depth _, ?_⟩
        rw [E10.is, Bool.false_xor]
        have h3 := T10 _ _ h2
        refine ⟨_, h3, ?_, ?_, (S2.trans T10).own hD⟩
        · rw [List.length_map, List.length_map, List.length_take]
          exact Nat.lt_of_le_of_lt (show min e G.length ≤ 1000000 by omega) (by decide)
        · rw [upd_same, tk, List.map_append, List.map_append]; rfl
      rintro H2 ⟨h2, S2⟩
      rw [List.length_map, List.take_length] at h2
      dsimp only [L2.tNil]
      refine ⟨D, _, rfl, SqL.of h2, ?_⟩
      rw [show ((G.map fun g => decide ((g, l) ∈ seen)).all id) = rowOk rs seen (s, b, l) from by rw [List.all_map]; unfold rowOk; dsimp only; rw [hr0, hG]; rfl]
      refine ⟨_, rfl, ?_⟩
      cases ho : rowOk rs seen (s, b, l) with
      | false =>
        refine iteT ?_
        have := k H2 (S1.trans S2)
        rw [ordR_split rs ws [] i (s, b, l) hwi (by rw [List.nil_append, hseen]; exact ho)] at this
        exact this
      | true =>
        refine iteF (goNext ?_)
        refine ⟨_, rfl, _, rfl, _, rfl, szl (by simp), fun t11 ht11 => ?_⟩
        have T11 := sm (o := .tup [nV s, nV b]) ht11
        have k11 : NkV K (upd H2 t11 (.tup [nV s, nV b])) (.ref t11) (wK [s, b]) := w_key ⟨t11, rfl, SqT.of upd_same⟩
        have E11 := E1.same (S2.trans T11)
        refine ⟨dd, t11, L, wK [s, b], ep, rfl, rfl, E11.at_, E11.keys, k11, wK_depth _, Nat.lt_of_le_of_lt (show L.length ≤ 1000000 by omega) (by decide), fun ep' => ?_⟩
        refine ⟨_, _, _, _, storeN L (wK [s, b]) t11 (V.bl true), ep', rfl, ?_, fun e r' he hr' => ?_, (S1.trans (S2.trans T11)).own hdd⟩
        · rw [List.take_succ, hwi, List.map_append, hseen]
          exact E11.put k11
        · by_cases c : e = i
          · subst c
            rw [hwi] at hr'
            injection hr' with hr'
            rw [← hr', hseen]; exact ho
          · exact hall e r' (by omega) hr'
    · rintro σ H1 ⟨v3, v4, v5, v6, L, ep, rfl, E1, hall, S1⟩
      have e : ordR rs [] ws = true := ordR_all rs ws [] fun i r hi => by
        have := hall i r (by rw [hwl]; exact (List.getElem?_eq_some_iff.mp hi).1) hi
        simpa using this
      have := k H1 S1
      rw [e] at this
      exact this
end
end LA

set_option maxHeartbeats 4000000
namespace LA
open PySem PySem.Spec PyProof.Rows L2
open C8 (Cal pe_c)
section
variable {P : Program} {w : World} {K : PySem.W.Frag} {mg : Str → Option Value} {base : Heap}
abbrev s_shows_certificate : Stmt := topS 19
abbrev N_shows_certificate : List Str := ["judge", "value", "blocks", "rows", "block", "row", "relations"]
theorem sc_shows_certificate : FnScope N_shows_certificate ["judge", "value"] (defScope s_shows_certificate) := ⟨rfl, rfl, rfl, by decide +kernel, rfl, by decide +kernel, by decide +kernel⟩
theorem ok_shows_certificate {f : Addr} {fd : FuncData} (F : Fun K "shows_certificate" "shows_certificate" s_shows_certificate f fd) (T : Bt mg) (c_is_tuple_of_length : Cal P w K mg base 1 "is_tuple_of_length" (spTL K) []) (c_is_loop : Cal P w K mg base 4 "is_loop" (spIsLoop K) []) (c_is_certificate_row : Cal P w K mg base 2 "is_certificate_row" (spCRow K) []) (c_relation_of_loop : Cal P w K mg base 4 "relation_of_loop" (spLpRel K) []) (c_are_rows_in_order : Cal P w K mg base 1 "are_rows_in_order" (spROrd K P w) []) : FnOk P w K mg base CX0 5 f fd ["judge", "value"] (spShowsCrt K) := by
  refine F.ok sc_shows_certificate (fun vs H Q E h => ?_) (fun cdv A outer s H vs Q E hr h => ?_)
  · obtain ⟨p, Z, jv, v, d, j, nx, ny, rfl, _⟩ := h
    rfl
  · obtain ⟨p, Z, jv, v, d, j, nx, ny, rfl, hJ, ij, hd, hz, q⟩ := h
    have hu64 := hr.units
    refine ⟨_, (pss_cons (ps_if (pt_not (pt_val (pe_c c_is_tuple_of_length hr (by decide) rfl (pa_cons (pv 1) (pa_cons pe_int pa_nil)))))
(pss_one (ps_ret pe_bl))
pss_nil)
(pss_cons (ps_asg (pv 1) (pg_tup rfl (pgs_cons (pg_name (i := 2) sc_shows_certificate.nd rfl (Or.inr rfl)) (pgs_cons (pg_name (i := 3) sc_shows_certificate.nd rfl (Or.inl rfl)) pgs_nil))))
(pss_cons (ps_if (PW.pt (pw_or (pt_not (pt_val (pe_callB (isQK K) (by rfl) T.isinstance (by decide +kernel) (pa_cons (pv 2) (pa_cons (pe_bltn (v := .ty "tuple") (u := .type "tuple") (by rfl) T.tuple (by decide +kernel) rfl) pa_nil))))) (pw_or (pt_not (pt_val (pe_callB (isQK K) (by rfl) T.isinstance (by decide +kernel) (pa_cons (pv 3) (pa_cons (pe_bltn (v := .ty "tuple") (u := .type "tuple") (by rfl) T.tuple (by decide +kernel) rfl) pa_nil))))) (pw_or (pt_cmpR (op_eq0 K hu64) (pv 2) (pe_tup pa_nil) (nomark _)) (pw_or1 (pt_cmpR (op_eq0 K hu64) (pv 3) (pe_tup pa_nil) (nomark _)))))))
(pss_one (ps_ret pe_bl))
pss_nil)
(pss_cons (ps_if (pt_not (pt_val (pe_callB (allK K) (by rfl) T.all (by decide +kernel) (pa_cons (pe_lc (own := [("block", 4)]) (g := (gName 4)) (tt := tYes) rfl sc_shows_certificate.nd (piTK K (pv 2)) (blkOk_by (N := N_shows_certificate) (sc := defScope s_shows_certificate) (by decide +kernel)) (fun _ _ _ _ _ => (pg_name (i := 4) sc_shows_certificate.nd rfl (Or.inl rfl))) (fun _ _ _ _ _ => pts_nil) (fun _ _ _ _ _ => (pe_c c_is_loop hr (by decide) rfl (pa_cons (pv 0) (pa_cons (pv 4) pa_nil))))) pa_nil))))
(pss_one (ps_ret pe_bl))
pss_nil)
(pss_cons (ps_if (pt_not (pt_val (pe_callB (allK K) (by rfl) T.all (by decide +kernel) (pa_cons (pe_lc (own := [("row", 5)]) (g := (gName 5)) (tt := tYes) rfl sc_shows_certificate.nd (piTK K (pv 3)) (blkOk_by (N := N_shows_certificate) (sc := defScope s_shows_certificate) (by decide +kernel)) (fun _ _ _ _ _ => (pg_name (i := 5) sc_shows_certificate.nd rfl (Or.inl rfl))) (fun _ _ _ _ _ => pts_nil) (fun _ _ _ _ _ => (pe_c c_is_certificate_row hr (by decide) rfl (pa_cons (pv 0) (pa_cons (pe_callB (lenK K) (by rfl) T.len PySem.boot_len (pa_cons (pv 2) pa_nil)) (pa_cons (pv 5) pa_nil)))))) pa_nil))))
(pss_one (ps_ret pe_bl))
pss_nil)
(pss_cons (ps_setLc (i := 6) (own := [("block", 4)]) (g := (gName 4)) (tt := tYes) rfl sc_shows_certificate.nd rfl rfl (sw_true rfl rfl rfl (by decide +kernel)) (piTK K (pv 2)) (blkOk_by (N := N_shows_certificate) (sc := defScope s_shows_certificate) (by decide +kernel)) (fun _ _ _ _ _ => (pg_name (i := 4) sc_shows_certificate.nd rfl (Or.inl rfl))) (fun _ _ _ _ _ => pts_nil) (fun _ _ _ _ _ => (pe_c c_relation_of_loop hr (by decide) rfl (pa_cons (pv 0) (pa_cons (pv 4) pa_nil)))))
(pss_one (ps_ret (pe_and (pe_cmpR op_eq (pe_ix (ixTK K) (pe_ix (ixTK K) (pv 3) (pe_un un_neg pe_int) (fun _ _ => rfl)) pe_int (fun _ _ => rfl)) pe_int (nomark _)) (pe_one (pe_c c_are_rows_in_order hr (by decide) rfl (pa_cons (pv 6) (pa_cons (pv 3) pa_nil))))))))))))), ?_⟩
    rw [show L2.start N_shows_certificate [jv, v] = [some jv, some v, none, none, none, none, none] from rfl]
    refine ⟨_, rfl, p, Z, v, d, 2, rfl, hd, _, rfl, ?_⟩
    rcases tl_of (n := 2) hd with e | ⟨e, a, xs, ds, rfl, rfl, hl, hxs, hda⟩
    · rw [e]
      refine iteT ?_
      have := q H (Same.refl H)
      rw [isCrt_no e] at this
      exact this
    rw [e]
    refine iteF (goNext ?_)
    obtain ⟨d1, d2, rfl⟩ : ∃ d1 d2, ds = [d1, d2] := by
      match ds, hl with
      | [a, b], _ => exact ⟨a, b, rfl⟩
    obtain ⟨v1, xs1, rfl, h1, hda1⟩ := dqAll_cons hda
    obtain ⟨v2, xs2, rfl, h2, hda2⟩ := dqAll_cons hda1
    cases hda2
    refine ⟨_, rfl, a, _, rfl, hxs, rfl, _, _, rfl, _, _, rfl, rfl, ?_⟩
    try dsimp only [L2.gName, List.set_cons_succ, List.set_cons_zero]
    refine ⟨_, rfl, isiOne h1 (kit_tup d1) ⟨_, rfl, ?_⟩⟩
    rcases nonTup h1 with e1 | ⟨ba, bxs, bs, rfl, rfl, hbT, hbA⟩
    · rw [e1]
      refine iteT ?_
      have := q H (Same.refl H)
      rw [isCrt_tt (.inl e1)] at this
      exact this
    refine iteF ?_
    refine ⟨_, rfl, isiOne h2 (kit_tup d2) ⟨_, rfl, ?_⟩⟩
    rcases nonTup h2 with e2 | ⟨wa, wxs, ws, rfl, rfl, hwT, hwA⟩
    · rw [e2]
      refine iteT ?_
      have := q H (Same.refl H)
      rw [isCrt_tt (.inr e2)] at this
      exact this
    refine iteF ?_
    rw [isCrt_two] at q
    have hbl := hbA.len
    have hwl := hwA.len
    refine ⟨_, rfl, szl (by simp), fun q1 f1 => ?_⟩
    have T1 := sm (o := .tup []) f1
    refine ⟨ba, q1, bxs, rfl, rfl, (Same.t T1).seq hbT, SqT.of upd_same, _, rfl, ?_⟩
    by_cases hb0 : bs = []
    · subst hb0
      have : bxs = [] := List.length_eq_zero_iff.mp (by rw [hbl]; rfl)
      subst this
      refine iteT (iteT ?_)
      exact q _ T1
    have hbe : bs.isEmpty = false := by cases bs with
      | nil => exact absurd rfl hb0
      | cons _ _ => rfl
    have hbxe : bxs.isEmpty = false := by cases bxs with
      | nil => exact absurd (List.length_eq_zero_iff.mp hbl.symm) hb0
      | cons _ _ => rfl
    rw [hbxe]
    refine iteF ?_
    refine ⟨_, rfl, szl (by simp), fun q2 f2 => ?_⟩
    have T2 := sm (o := .tup []) f2
    refine ⟨wa, q2, wxs, rfl, rfl, (Same.t (T1.trans T2)).seq hwT, SqT.of upd_same, _, rfl, ?_⟩
    rw [hbe, Bool.not_false, Bool.true_and] at q
    by_cases hw0 : ws = []
    · subst hw0
      have : wxs = [] := List.length_eq_zero_iff.mp (by rw [hwl]; rfl)
      subst this
      refine iteT ?_
      exact q _ (T1.trans T2)
    have hwe : ws.isEmpty = false := by cases ws with
      | nil => exact absurd rfl hw0
      | cons _ _ => rfl
    have hwxe : wxs.isEmpty = false := by cases wxs with
      | nil => exact absurd (List.length_eq_zero_iff.mp hwl.symm) hw0
      | cons _ _ => rfl
    rw [hwxe]
    refine iteF (goNext ?_)
    rw [hwe, Bool.not_false, Bool.true_and] at q
    have S2 := T1.trans T2
    generalize upd (upd H q1 (.tup [])) q2 (.tup []) = H2 at S2
    clear T1 T2 f1 f2
    have hzb : szD (.tuple bs) ≤ 100000 ∧ szD (.tuple ws) ≤ 100000 := by
      simp only [szD, szAll] at hz ⊢
      omega
    have hzm : ∀ d ∈ bs, szD d ≤ 100000 := fun d hd => by
      have := szAll_mem hd
      have := hzb.1
      simp only [szD] at this
      omega
    have J2 := hJ.t (Same.t S2)
    have hbT2 := (Same.t S2).seq hbT
    have hwT2 := (Same.t S2).seq hwT
    have hbA2 := hbA.same S2
    have hwA2 := hwA.same S2
    refine ⟨_, rfl, ba, rfl, ⟨_, hbT2⟩, fun D hD => ?_⟩
    refine lc_tup (K := K) (a := ba) (xs := bxs) (fun i H' => H' D = some (.lst (((bs.take i).map (lpB j nx)).map V.bl)) ∧ Same H2 H') ⟨upd_same, sm hD⟩ (fun i H' _ ⟨_, z⟩ => (Same.t z).seq hbT2) ?_ ?_
    · rintro i x H3 hx ⟨h3, S3⟩
      obtain ⟨dx, g1, g2⟩ := (hbA2.same S3).get hx
      refine ⟨rfl, tyes ?_⟩
      refine ⟨_, rfl, _, rfl, p, Z, jv, x, dx, j, nx, ny, rfl, J2.t (Same.t S3), ij, g2, hzm dx (List.mem_of_getElem? g1), fun H4 S4 => ?_⟩
      refine ⟨_, S4 _ _ h3, takeLt (Nat.le_trans hzb.1 (by decide)), ?_, (S3.trans S4).own hD⟩
      rw [upd_same, List.take_add_one, g1]; simp
    rintro H3 ⟨h3, S3⟩
    rw [hbl, List.take_length] at h3
    dsimp only [L2.tNil]
    refine ⟨D, _, rfl, SqL.of h3, ?_⟩
    rw [show ((bs.map (lpB j nx)).all id) = bs.all (lpB j nx) from by rw [List.all_map]; rfl]
    refine ⟨_, rfl, ?_⟩
    have S3' := S2.trans S3
    cases hlp : bs.all (lpB j nx) with
    | false =>
      refine iteT ?_
      rw [hlp, Bool.false_and] at q
      exact q _ S3'
    | true =>
    refine iteF (goNext ?_)
    rw [hlp, Bool.true_and] at q
    have J3 := hJ.t (Same.t S3')
    have hbT3 := (Same.t S3').seq hbT
    have hwT3 := (Same.t S3').seq hwT
    have hbA3 := hbA.same S3'
    have hwA3 := hwA.same S3'
    try dsimp only [L2.gName, List.set_cons_succ, List.set_cons_zero]
    refine ⟨_, rfl, wa, rfl, ⟨_, hwT3⟩, fun D2 hD2 => ?_⟩
    refine lc_tup (K := K) (a := wa) (xs := wxs) (fun i H' => H' D2 = some (.lst (((ws.take i).map (isRowD j.length bs.length)).map V.bl)) ∧ Same H3 H') ⟨upd_same, sm hD2⟩ (fun i H' _ ⟨_, z⟩ => (Same.t z).seq hwT3) ?_ ?_
    · rintro i x H4 hx ⟨h4, S4⟩
      obtain ⟨dx, g1, g2⟩ := (hwA3.same S4).get hx
      refine ⟨rfl, tyes ?_⟩
      refine ⟨_, rfl, _, rfl, ba, bxs, rfl, .inr ((Same.t S4).seq hbT3), _, rfl, p, Z, jv, x, dx, j, bs.length, by rw [hbl]; rfl, J3.t (Same.t S4), g2, ?_⟩
      refine ⟨_, h4, takeLt (Nat.le_trans hzb.2 (by decide)), ?_, S4.own hD2⟩
      rw [upd_same, List.take_add_one, g1]; simp
    rintro H4 ⟨h4, S4⟩
    rw [hwl, List.take_length] at h4
    dsimp only [L2.tNil]
    refine ⟨D2, _, rfl, SqL.of h4, ?_⟩
    rw [show ((ws.map (isRowD j.length bs.length)).all id) = ws.all (isRowD j.length bs.length) from by rw [List.all_map]; rfl]
    refine ⟨_, rfl, ?_⟩
    have S4' := S3'.trans S4
    cases hrw : ws.all (isRowD j.length bs.length) with
    | false =>
      refine iteT ?_
      rw [hrw, Bool.false_and] at q
      exact q _ S4'
    | true =>
    refine iteF (goNext ?_)
    rw [hrw, Bool.true_and] at q
    have J4 := hJ.t (Same.t S4')
    have hbT4 := (Same.t S4').seq hbT
    have hbA4 := hbA.same S4'
    try dsimp only [L2.gName, List.set_cons_succ, List.set_cons_zero]
    refine ⟨_, rfl, ba, rfl, ⟨_, hbT4⟩, fun D3 hD3 => ?_⟩
    refine lc_tup (K := K) (a := ba) (xs := bxs) (fun i H' => ∃ zs, H' D3 = some (.lst zs) ∧ Paired (RAt K H') zs ((bs.take i).map (lpR j)) ∧ Same H4 H') ⟨[], upd_same, .nil, sm hD3⟩ (fun i H' _ ⟨_, _, _, z⟩ => (Same.t z).seq hbT4) ?_ ?_
    · rintro i x H5 hx ⟨zs, h5, hp5, S5⟩
      obtain ⟨dx, g1, g2⟩ := (hbA4.same S5).get hx
      have hzl := paired_len hp5
      have h2l := szAll_len bs
      have hzb1 := hzb.1
      simp only [szD] at hzb1
      rw [List.length_map, List.length_take] at hzl
      have hdm := List.mem_of_getElem? g1
      refine ⟨rfl, tyes ?_⟩
      refine ⟨_, rfl, _, rfl, p, Z, jv, x, dx, j, nx, ny, rfl, J4.t (Same.t S5), ij, g2, hzm dx hdm, List.all_eq_true.mp hlp dx hdm, fun H6 u S6 hu => ?_⟩
      have h6 := S6 _ _ h5
      have t7 := SameT.lst (ys := zs ++ [u]) h6
      refine ⟨zs, h6, Nat.lt_of_le_of_lt (show zs.length ≤ 1000000 by omega) (by decide), zs ++ [u], upd_same, ?_, (S5.trans S6).own hD3⟩
      rw [show bs.take (i + 1) = bs.take i ++ [dx] from by rw [List.take_succ, g1]; rfl, List.map_append]
      exact paired_snoc (paired_map hp5 fun _ _ z => (z.t (Same.t S6)).t t7) (hu.t t7)
    rintro H5 ⟨zs, h5, hp5, S5⟩
    rw [hbl, List.take_length] at hp5
    try dsimp only [L2.gName, List.set_cons_succ, List.set_cons_zero]
    have S5' := S4'.trans S5
    have hwT5 := (Same.t S5').seq hwT
    have hwA5 := hwA.same S5'
    obtain ⟨hR5, hRb⟩ := rows_at hwA5 hrw
    have hz5 := szAll_len ws
    have hzw := hzb.2
    simp only [szD] at hzw
    rcases List.eq_nil_or_concat (ws.map rw3N) with e0 | ⟨W', r, eW⟩
    · exact absurd (List.map_eq_nil_iff.mp e0) hw0
    rw [List.concat_eq_append] at eW
    have hR5' := hR5
    rw [eW] at hR5'
    obtain ⟨us', v, ewx, _, t, rfl, hT⟩ := paired_un hR5'
    have hlast : atI wxs (-1) = some (V.ref t) := by rw [ewx]; exact at_last
    rw [eW, List.getLast?_concat] at q
    refine ⟨_, rfl, _, rfl, wa, wxs, _, V.ref t, rfl, rfl, hwT5, hlast, t, _, _, nV r.1, rfl, rfl, hT, atI_nat (j := 0) rfl, rfl, _, rfl, ?_⟩
    by_cases hr0 : r.1 = 0
    · rw [show decide (nV r.1 = V.int 0) = true from decide_eq_true (by rw [hr0]; rfl)]
      refine iteT ?_
      rw [show decide (Option.map (fun x : Rw3 => x.1) (some r) = some 0) = true from decide_eq_true (by rw [← hr0]; rfl), Bool.true_and, ← eW] at q
      refine ⟨_, rfl, _, rfl, D3, wa, zs, bs.map (lpR j), wxs, ws.map rw3N, j.length, rfl, h5, hp5, hwT5, hR5, fun r hr => ?_, fun r hr => by rw [List.length_map]; exact hRb r hr, by omega, ij.n8, fun H6 S6 => q H6 (S5'.trans S6)⟩
      obtain ⟨d, hd, rfl⟩ := List.mem_map.mp hr
      exact lpR_ok (List.all_eq_true.mp hlp d hd)
    · rw [show decide (nV r.1 = V.int 0) = false from decide_eq_false (fun z => hr0 (by
        have : (r.1 : Int) = 0 := by injection z
        omega))]
      refine iteF ?_
      rw [show decide (Option.map (fun x : Rw3 => x.1) (some r) = some 0) = false from decide_eq_false (fun z => hr0 (Option.some.inj z)), Bool.false_and] at q
      exact q H5 S5'
end
end LA

set_option maxHeartbeats 4000000
namespace LA
open PySem PySem.Spec PyProof.Rows L2
open C8 (Cal pe_c)
section
variable {P : Program} {w : World} {K : PySem.W.Frag} {mg : Str → Option Value} {base : Heap}
abbrev s_law : Stmt := topS 29
abbrev N_law : List Str := ["_law_script", "_law_pot_here", "_law_turn", "_law_order", "_law_xs", "_law_ys", "_law_plant", "_law_blocks", "_law_good", "_law_rows", "_law_bad"]
theorem sc_law : FnScope N_law ["_law_script"] (defScope s_law) := ⟨rfl, rfl, rfl, by decide +kernel, rfl, by decide +kernel, by decide +kernel⟩
theorem ok_law {f : Addr} {fd : FuncData} (F : Fun K "law" "law" s_law f fd) (T : Bt mg) (c_pot : Cal P w K mg base 1 "_law_pot" (spPot K) []) (c_mixed : Cal P w K mg base 2 "_law_mixed" (spMixed K) []) (c_endless : Cal P w K mg base 1 "_law_endless" (spEndless K) []) (c_turned : Cal P w K mg base 1 "_law_turned" (spTurnV K false false) []) (c_papers : Cal P w K mg base 2 "_law_papers" (spPapers56 K) []) (c_bad_papers : Cal P w K mg base 1 "_law_bad_papers" (spBad56 K) []) (c_many_rows_right : Cal P w K mg base 6 "_law_many_rows_right" (spMany56 K) []) (c_shows_certificate : Cal P w K mg base 5 "shows_certificate" (spShowsCrt K) []) : FnG P w K mg base CX0 7 f fd ["_law_script"] (spLaw K) := by
  refine okG F sc_law (fun vs H Q E h => ?_) (fun cdv A outer s H vs Q E hgd hr h => ?_)
  · obtain ⟨a, ns, rfl, _⟩ := h
    rfl
  · obtain ⟨a, ns, rfl, hS, hlen, k⟩ := h
    have hu64 := hr.units
    refine ⟨_, (pss_cons (ps_set (i := 1) sc_law.nd rfl (Or.inl rfl) (pe_c c_pot hr (by decide) rfl (pa_cons (pv 0) (pa_cons pe_int pa_nil))))
(pss_cons (ps_if (pt_not (pt_val (pe_c c_many_rows_right hr (by decide) rfl (pa_cons (pv 1) pa_nil))))
(pss_one (ps_ret pe_bl))
pss_nil)
(pss_cons (ps_for PassesOwn.never rfl (pi_range1 (by rfl) T.range (pa_cons pe_int pa_nil)) (pg_name (i := 2) sc_law.nd rfl (Or.inl rfl))
(pss_cons (ps_par3 (i := 3) (j := 4) (l := 5) rfl sc_law.nd rfl rfl rfl (by decide) (by decide) (by decide) rfl rfl rfl (pa_cons (pe_op op_cat (pe_lst (pa_cons pe_int pa_nil)) (pe_c c_mixed hr (by decide) rfl (pa_cons (pv 1) (pa_cons (pe_lst (pa_cons pe_int (pa_cons pe_int pa_nil))) pa_nil)))) (pa_cons (pe_c c_mixed hr (by decide) rfl (pa_cons (pv 1) (pa_cons (pe_lst (pa_cons pe_int (pa_cons pe_int (pa_cons pe_int pa_nil)))) pa_nil))) (pa_cons (pe_c c_mixed hr (by decide) rfl (pa_cons (pv 1) (pa_cons (pe_lst (pa_cons pe_int (pa_cons pe_int pa_nil))) pa_nil))) pa_nil))) rfl)
(pss_cons (ps_set (i := 6) sc_law.nd rfl (Or.inr rfl) (pe_c c_turned hr (by decide) rfl (pa_cons (pe_c0 c_endless hr (by decide) rfl) (pa_cons (pv 3) (pa_cons (pv 4) (pa_cons (pv 5) pa_nil))))))
(pss_cons (ps_asg (pe_c c_papers hr (by decide) rfl (pa_cons (pv 1) (pa_cons (pv 3) (pa_cons (pv 4) pa_nil)))) (pg_tup rfl (pgs_cons (pg_name (i := 7) sc_law.nd rfl (Or.inr rfl)) (pgs_cons (pg_name (i := 8) sc_law.nd rfl (Or.inl rfl)) pgs_nil))))
(pss_cons (ps_if (pt_not (pt_val (pe_callB (cr_all rfl) (by rfl) T.all (by decide +kernel) (pa_cons (pe_lc (own := [("_law_rows", 9)]) (g := (gName 9)) (tt := tYes) rfl sc_law.nd (piLK K (pv 8)) (blkOk_by (N := N_law) (sc := defScope s_law) (by decide +kernel)) (fun _ _ _ _ _ => (pg_name (i := 9) sc_law.nd rfl (Or.inl rfl))) (fun _ _ _ _ _ => pts_nil) (fun _ _ _ _ _ => (pe_cmpR op_isBl (pe_c c_shows_certificate hr (by decide) rfl (pa_cons (pv 6) (pa_cons (pe_tup (pa_cons (pv 7) (pa_cons (pv 9) pa_nil))) pa_nil))) pe_bl (nomark _)))) pa_nil))))
(pss_one (ps_ret pe_bl))
pss_nil)
(pss_one (ps_if (pt_not (pt_val (pe_callB (cr_all rfl) (by rfl) T.all (by decide +kernel) (pa_cons (pe_lc (own := [("_law_bad", 10)]) (g := (gName 10)) (tt := tYes) rfl sc_law.nd (piLK K (pe_c c_bad_papers hr (by decide) rfl (pa_cons (pv 7) (pa_cons (pe_ix (ixLK K) (pv 8) pe_int (fun _ _ => rfl)) (pa_cons (pv 3) (pa_cons (pv 4) pa_nil)))))) (blkOk_by (N := N_law) (sc := defScope s_law) (by decide +kernel)) (fun _ _ _ _ _ => (pg_name (i := 10) sc_law.nd rfl (Or.inl rfl))) (fun _ _ _ _ _ => pts_nil) (fun _ _ _ _ _ => (pe_cmpR op_isBl (pe_c c_shows_certificate hr (by decide) rfl (pa_cons (pv 6) (pa_cons (pv 10) pa_nil))) pe_bl (nomark _)))) pa_nil))))
(pss_one (ps_ret pe_bl))
pss_nil)))))))
(pss_one (ps_ret pe_bl))))), ?_⟩
    rw [show L2.start N_law [V.ref a] = [some (.ref a), none, none, none, none, none, none, none, none, none, none] from rfl]
    refine ⟨_, rfl, a, ns, 0, rfl, hS, by omega, fun H1 p S1 hp P1 => ?_⟩
    try dsimp only [L2.gName, List.set_cons_succ, List.set_cons_zero]
    refine ⟨_, rfl, p, 0, rfl, P1, by omega, fun H2 X2 P2 => ?_⟩
    refine ⟨_, rfl, ?_⟩
    refine iteF (goNext ?_)
    refine ⟨_, rfl, by decide, by decide, for_range (lo := 0) (fun i σ H' => ∃ (v2 v3 v4 v5 v6 v7 v8 v9 v10 : Option V), σ = [some (.ref a), some (.ref p), v2, v3, v4, v5, v6, v7, v8, v9, v10] ∧ PotAt H' p (1 + 13 * i)) ⟨_, _, _, _, _, _, _, _, _, rfl, P2⟩ ?_ ?_⟩
    · rintro i σ H3 hi ⟨v2, v3, v4, v5, v6, v7, v8, v9, v10, rfl, P3⟩
      have hi4 : i < 4 := by have := hi; omega
      try dsimp only [L2.gName, List.set_cons_succ, List.set_cons_zero]
      refine ⟨szl (by simp), fun l0 f0 => ?_⟩
      have n0 := P3.ne f0
      have h0 : upd H3 l0 (.lst [V.int 0]) l0 = some (.lst [V.int 0]) := upd_same
      have P4 := P3.new (o := .lst [V.int 0]) n0
      generalize upd H3 l0 (.lst [V.int 0]) = H4 at h0 P4
      refine ⟨_, rfl, szl (by simp), fun l1 f1 => ?_⟩
      have n1 := P4.ne f1
      have T1 := sm (o := .lst [V.int 1, V.int 2]) f1
      refine ⟨p, l1, [1, 2], _, rfl, upd_same, n1, by decide, P4.same T1, by simp; omega, fun H5 q1 m1 X5 P5 fq1 h1 pm1 => ?_⟩
      have h0' := X5 _ _ (T1 _ _ h0) n0
      have nq1 := (P4.same T1).ne fq1
      refine ⟨l0, q1, _, _, rfl, rfl, h0', h1, Nat.le_trans (show [V.int 0].length + (m1.map V.int).length ≤ 1000 by rw [List.length_map, pm1.length_eq]; decide) (by decide), fun ol fo => ?_⟩
      obtain ⟨os, eos, so, so0⟩ := seq_rg1 (n := 3) (ms := m1) (by decide) (by rw [show ((List.range (3 - 1)).map fun i => 1 + ((i : Nat) : Int)) = [1, 2] from by decide]; exact pm1)
      have ho : upd H5 ol (.lst ([V.int 0] ++ m1.map V.int)) ol = some (.lst (os.map nV)) := by rw [upd_same, ← eos]; rfl
      have no := P5.ne fo
      have P6 := P5.new (o := .lst ([V.int 0] ++ m1.map V.int)) no
      generalize upd H5 ol (.lst ([V.int 0] ++ m1.map V.int)) = H6 at ho P6
      clear h0' h1 nq1 fq1 pm1 X5 P5 T1 f1 h0 P4 eos fo
      refine ⟨_, rfl, szl (by simp), fun l2 f2 => ?_⟩
      have n2 := P6.ne f2
      have T2 := sm (o := .lst [V.int 0, V.int 1, V.int 2]) f2
      refine ⟨p, l2, [0, 1, 2], _, rfl, upd_same, n2, by decide, P6.same T2, by simp; omega, fun H7 xl m2 X7 P7 fx h7 pm2 => ?_⟩
      obtain ⟨xs, exs, sx⟩ := seq_rg (n := 3) (ms := m2) (by rw [show ((List.range 3).map fun i => ((i : Nat) : Int)) = [0, 1, 2] from by decide]; exact pm2)
      have nx := (P6.same T2).ne fx
      have ho := X7 _ _ (T2 _ _ ho) no
      rw [exs] at h7
      refine ⟨_, rfl, szl (by simp), fun l3 f3 => ?_⟩
      have n3 := P7.ne f3
      have T3 := sm (o := .lst [V.int 0, V.int 1]) f3
      refine ⟨p, l3, [0, 1], _, rfl, upd_same, n3, by decide, P7.same T3, by simp; omega, fun H8 yl m3 X8 P8 fy h8 pm3 => ?_⟩
      obtain ⟨ys, eys, sy⟩ := seq_rg (n := 2) (ms := m3) (by rw [show ((List.range 2).map fun i => ((i : Nat) : Int)) = [0, 1] from by decide]; exact pm3)
      have ny := (P7.same T3).ne fy
      have ho := X8 _ _ (T3 _ _ ho) no
      have hx := X8 _ _ (T3 _ _ h7) nx
      rw [eys] at h8
      clear T2 T3 f2 f3 fx fy pm2 pm3 exs eys X7 X8 h7 P6 P7 n2 n3 n0 n1
      refine ⟨_, _, _, rfl, ?_⟩
      try dsimp only [L2.gName, List.set_cons_succ, List.set_cons_zero]
      refine ⟨rfl, fun H9 ev S9 J9 => ?_⟩
      refine ⟨_, rfl, _, rfl, _, rfl, ev, ol, xl, yl, endJ, 3, 2, os, xs, ys, rfl, J9, endJ_is, SqL.of (S9 _ _ ho), SqL.of (S9 _ _ hx), SqL.of (S9 _ _ h8), so, sx, sy, fun H10 jv j S10 J10 tr => ?_⟩
      try dsimp only [L2.gName, List.set_cons_succ, List.set_cons_zero]
      have T := S9.trans S10
      have ho := T _ _ ho
      have hx := T _ _ hx
      have P10 := P8.same T
      clear T S9 S10 J9 h8 P8
      obtain ⟨a0, b0, ew⟩ : ∃ a b, os = [0, a, b] := by
        have := so.len
        match os, this, so0 with
        | [x, a, b], _, e => exact ⟨a, b, by rw [show x = 0 from e]⟩
      obtain ⟨z, x, y, ex⟩ : ∃ z x y, xs = [z, x, y] := by
        have := sx.len
        match xs, this with
        | [x, a, b], _ => exact ⟨x, a, b, rfl⟩
      rw [ew] at ho
      rw [ex] at hx
      refine ⟨_, rfl, _, rfl, _, rfl, p, ol, xl, _, a0, b0, z, x, y, rfl, P10, by simp; omega, ho, hx, no, nx, fun H11 pv kf X11 P11 hk hp11 => ?_⟩
      obtain ⟨t, gl, bv, gvs, rfl, ht, hb, hg, hgp⟩ := hp11.ex
      refine ⟨t, _, rfl, ht, rfl, _, _, rfl, _, _, rfl, rfl, ?_⟩
      try dsimp only [L2.gName, List.set_cons_succ, List.set_cons_zero]
      have w56 : W56 j z x y a0 b0 kf := by
        have := w56_of so so0 sx sy tr hk
        rw [ew, ex] at this
        exact this
      have ij := tr.ij
      have J11 := J10.t (P10.t X11)
      have ho := X11 _ _ ho no
      have hx := X11 _ _ hx nx
      clear X11 P10 J10
      have z3 : z < 3 := by have := sx.lt (s := 0) (by decide); rw [ex] at this; exact this
      have x3 : x < 3 := by have := sx.lt (s := 1) (by decide); rw [ex] at this; exact this
      have y3 : y < 3 := by have := sx.lt (s := 2) (by decide); rw [ex] at this; exact this
      have a3 : a0 < 3 := by have := so.lt (s := 1) (by decide); rw [ew] at this; exact this
      have b3 : b0 < 3 := by have := so.lt (s := 2) (by decide); rw [ew] at this; exact this
      clear so sx sy tr ew ex so0
      refine ⟨_, rfl, gl, rfl, ⟨_, SqL.of hg⟩, fun D hD => ?_⟩
      have nD := P11.ne hD
      refine lc_list (K := K) (a := gl) (xs := gvs) (fun m H' => H' D = some (.lst ((List.replicate m true).map V.bl)) ∧ Same H11 H') ⟨upd_same, sm hD⟩ (fun m H' _ ⟨_, z⟩ => SqL.of (z _ _ hg)) ?_ ?_
      · rintro m v H12 hv ⟨h12, S12⟩
        obtain ⟨ws, hws, hgv⟩ := paired_at hgp hv
        have hwm := List.mem_of_getElem? hws
        refine ⟨rfl, tyes ?_⟩
        refine ⟨_, rfl, _, rfl, _, rfl, szl (by simp), fun q fq => ?_⟩
        have T := sm (o := .tup [bv, v]) fq
        have D12 : Dq K 0 NZ (upd H12 q (.tup [bv, v])) (.ref q) (crtD (bks56 kf z x y) ws) := dq_new fq (.cons (hb.same S12) (.cons (Dq.same (show Dq K 0 NZ H11 v _ from hgv) S12) .nil))
        obtain ⟨gs1, gs2⟩ := goods_s a3 b3 ws hwm
        refine ⟨0, NZ, _, _, _, j, 3, 2, rfl, J11.t (Same.t (S12.trans T)), ij, D12, sz_crt (bks_s hk z3 x3 y3) gs2 (by simp [bks56]) gs1, fun H13 S13 => ?_⟩
        rw [w56.good ws hwm]
        have S := T.trans S13
        refine ⟨true, true, rfl, rfl, ?_⟩
        refine ⟨_, S _ _ h12, ?_, ?_, (S12.trans S).own hD⟩
        · have := paired_len hgp
          have := (List.getElem?_eq_some_iff.mp hv).1
          have e4 : (goods56 a0 b0).length = 4 := rfl
          simp; exact Nat.lt_of_le_of_lt (show m ≤ 1000 by omega) (by decide)
        · rw [upd_same, List.replicate_succ']; simp
      rintro H12 ⟨h12, S12⟩
      refine ⟨D, _, rfl, SqL.of h12, ?_⟩
      have e : ∀ n : Nat, ((List.replicate n true).all id) = true := by intro n; simp
      rw [e]
      refine ⟨_, rfl, ?_⟩
      refine iteF (goNext ?_)
      have P12 := P11.same S12
      have J12 := J11.t (Same.t S12)
      obtain ⟨gv0, gvs', rfl, hg0⟩ : ∃ v vs', gvs = v :: vs' ∧ GoodAt K H11 v (rws56 a0 b0) := by
        cases hgp with
        | cons h _ => exact ⟨_, _, rfl, h⟩
      try dsimp only [L2.gName, List.set_cons_succ, List.set_cons_zero]
      have lb : noLAll ((bks56 kf z x y).map bkD) = true := by simp [bks56, noLAll, bkD, noL_lpD]
      have lr : noLAll ((rws56 a0 b0).map rwD) = true := by simp [rws56, noLAll, rwD, noL]
      refine ⟨_, rfl, _, rfl, gl, _, _, _, rfl, rfl, SqL.of (S12 _ _ hg), atI_nat (j := 0) rfl, _, rfl, _, rfl, bv, gv0, ol, xl, _, _, _, _, _, _, _, _, 0, a0, b0, z, x, y, rfl, hb.same S12, Dq.same (show Dq K 0 NZ H11 gv0 _ from hg0) S12, lb, lr, S12 _ _ ho, S12 _ _ hx, fun H13 qq bl bvs S13 hbl hbp => ?_⟩
      refine ⟨bl, rfl, ⟨_, SqL.of hbl⟩, fun D2 hD2 => ?_⟩
      have nD2 := (P12.same S13).ne hD2
      have J13 := J12.t (Same.t S13)
      refine lc_list (K := K) (a := bl) (xs := bvs) (fun m H' => H' D2 = some (.lst ((List.replicate m true).map V.bl)) ∧ Same H13 H') ⟨upd_same, sm hD2⟩ (fun m H' _ ⟨_, z⟩ => SqL.of (z _ _ hbl)) ?_ ?_
      · rintro m v H14 hv ⟨h14, S14⟩
        obtain ⟨d, hd, hdv⟩ := paired_at hbp hv
        have hdm := List.mem_of_getElem? hd
        have hno := bad56 w56 hdm
        have hsz := badD_sz ⟨sz_blk (bks_s hk z3 x3 y3 _ (by simp [bks56])), sz_blk (bks_s hk z3 x3 y3 _ (by simp [bks56])), sz_blk (bks_s hk z3 x3 y3 _ (by simp [bks56]))⟩ ⟨sz_row (r := (a0, 2, 0)) ⟨by show a0 < 4; omega, by show 2 < 4; omega, by show 0 < 4; omega⟩, sz_row (r := (b0, 1, 2)) ⟨by show b0 < 4; omega, by show 1 < 4; omega, by show 2 < 4; omega⟩, sz_row (r := (a0, 0, 2)) ⟨by show a0 < 4; omega, by show 0 < 4; omega, by show 2 < 4; omega⟩, sz_row (r := (b0, 0, 1)) ⟨by show b0 < 4; omega, by show 0 < 4; omega, by show 1 < 4; omega⟩, sz_row (r := (0, 0, 0)) ⟨by decide, by decide, by decide⟩⟩ z3 x3 y3 (by decide) (by omega) d hdm
        refine ⟨rfl, tyes ?_⟩
        refine ⟨_, rfl, _, rfl, qq, NZ, _, _, d, j, 3, 2, rfl, J13.t (Same.t S14), ij, hdv.same S14, hsz, fun H15 S15 => ?_⟩
        rw [hno]
        refine ⟨false, false, rfl, rfl, ?_⟩
        refine ⟨_, S15 _ _ h14, ?_, ?_, (S14.trans S15).own hD2⟩
        · have := paired_len hbp
          have := (List.getElem?_eq_some_iff.mp hv).1
          have e4 : bvs.length = 15 := paired_len hbp
          simp; exact Nat.lt_of_le_of_lt (show m ≤ 1000 by omega) (by decide)
        · rw [upd_same, List.replicate_succ']; simp
      rintro H14 ⟨h14, S14⟩
      refine ⟨D2, _, rfl, SqL.of h14, ?_⟩
      rw [e]
      refine ⟨_, rfl, ?_⟩
      refine iteF (goNext ?_)
      exact ⟨_, _, _, _, _, _, _, _, _, rfl, ((P12.same S13).same S14).mono (by simp; omega)⟩
    · rintro σ H3 ⟨v2, v3, v4, v5, v6, v7, v8, v9, v10, rfl, P3⟩
      exact k _
end
end LA

set_option maxHeartbeats 4000000
namespace LA
open PySem L2
theorem all_mk {l : PySem.W.OpenLaw} {w : World} {K : PySem.W.Frag} {h : Heap} {mg : Str → Option Value} {fa f1 f2 f3 f4 f5 f6 f7 f8 f9 f10 f11 f12 f13 f14 f15 f16 f17 f18 f19 f20 f21 f22 f23 f24 f25 : Addr} (X : K.In h) (G : h.Ns mainGlobals mg) (hfa : mg "law" = some (.ref fa))
    {od1 an1 od2 an2 od3 an3 od4 an4 od5 an5 od6 an6 od7 an7 od8 an8 od9 an9 od10 an10 od11 an11 od12 an12 od13 an13 od14 an14 od15 an15 od16 an16 od17 an17 od18 an18 od19 an19 od20 an20 od21 an21 od22 an22 od23 an23 od24 an24 od25 an25 : Option Addr} {sl1 sl2 sl3 sl4 sl5 sl6 sl7 sl8 sl9 sl10 sl11 sl12 sl13 sl14 sl15 sl16 sl17 sl18 sl19 sl20 sl21 sl22 sl23 sl24 sl25 : Array (Option Value)} {oc1 kV1 dc1 pm1 cd1 ct1 oc2 kV2 dc2 pm2 cd2 ct2 oc3 kV3 dc3 pm3 cd3 ct3 oc4 kV4 dc4 pm4 cd4 ct4 oc5 kV5 dc5 pm5 cd5 ct5 oc6 kV6 dc6 pm6 cd6 ct6 oc7 kV7 dc7 pm7 cd7 ct7 oc8 kV8 dc8 pm8 cd8 ct8 oc9 kV9 dc9 pm9 cd9 ct9 oc10 kV10 dc10 pm10 cd10 ct10 oc11 kV11 dc11 pm11 cd11 ct11 oc12 kV12 dc12 pm12 cd12 ct12 oc13 kV13 dc13 pm13 cd13 ct13 oc14 kV14 dc14 pm14 cd14 ct14 oc15 kV15 dc15 pm15 cd15 ct15 oc16 kV16 dc16 pm16 cd16 ct16 oc17 kV17 dc17 pm17 cd17 ct17 oc18 kV18 dc18 pm18 cd18 ct18 oc19 kV19 dc19 pm19 cd19 ct19 oc20 kV20 dc20 pm20 cd20 ct20 oc21 kV21 dc21 pm21 cd21 ct21 oc22 kV22 dc22 pm22 cd22 ct22 oc23 kV23 dc23 pm23 cd23 ct23 oc24 kV24 dc24 pm24 cd24 ct24 oc25 kV25 dc25 pm25 cd25 ct25 : Value}
    (a1 : PySem.W.nsIn K mainGlobals "_law_take" = some (some (.ref f1))) (l1 : K.lookup f1 = some ⟨oc1, od1, .func (PySem.W.fnOf "_law_take" "_law_take" (defArgs s_take) (defBody s_take) (defScope s_take) .none kV1 dc1 pm1 an1 cd1 ct1), sl1⟩) (c1 : PySem.W.codeIn K cd1 "_law_take" = true) (k1 : PySem.W.keepIn K (.ref f1) = true)
    (a2 : PySem.W.nsIn K mainGlobals "_law_pot" = some (some (.ref f2))) (l2 : K.lookup f2 = some ⟨oc2, od2, .func (PySem.W.fnOf "_law_pot" "_law_pot" (defArgs s_pot) (defBody s_pot) (defScope s_pot) .none kV2 dc2 pm2 an2 cd2 ct2), sl2⟩) (c2 : PySem.W.codeIn K cd2 "_law_pot" = true) (k2 : PySem.W.keepIn K (.ref f2) = true)
    (a3 : PySem.W.nsIn K mainGlobals "input_count" = some (some (.ref f3))) (l3 : K.lookup f3 = some ⟨oc3, od3, .func (PySem.W.fnOf "input_count" "input_count" (defArgs s_input_count) (defBody s_input_count) (defScope s_input_count) .none kV3 dc3 pm3 an3 cd3 ct3), sl3⟩) (c3 : PySem.W.codeIn K cd3 "input_count" = true) (k3 : PySem.W.keepIn K (.ref f3) = true)
    (a4 : PySem.W.nsIn K mainGlobals "states_behind" = some (some (.ref f4))) (l4 : K.lookup f4 = some ⟨oc4, od4, .func (PySem.W.fnOf "states_behind" "states_behind" (defArgs s_states_behind) (defBody s_states_behind) (defScope s_states_behind) .none kV4 dc4 pm4 an4 cd4 ct4), sl4⟩) (c4 : PySem.W.codeIn K cd4 "states_behind" = true) (k4 : PySem.W.keepIn K (.ref f4) = true)
    (a5 : PySem.W.nsIn K mainGlobals "composed_again" = some (some (.ref f5))) (l5 : K.lookup f5 = some ⟨oc5, od5, .func (PySem.W.fnOf "composed_again" "composed_again" (defArgs s_composed_again) (defBody s_composed_again) (defScope s_composed_again) .none kV5 dc5 pm5 an5 cd5 ct5), sl5⟩) (c5 : PySem.W.codeIn K cd5 "composed_again" = true) (k5 : PySem.W.keepIn K (.ref f5) = true)
    (a6 : PySem.W.nsIn K mainGlobals "relation_of_nothing" = some (some (.ref f6))) (l6 : K.lookup f6 = some ⟨oc6, od6, .func (PySem.W.fnOf "relation_of_nothing" "relation_of_nothing" (defArgs s_relation_of_nothing) (defBody s_relation_of_nothing) (defScope s_relation_of_nothing) .none kV6 dc6 pm6 an6 cd6 ct6), sl6⟩) (c6 : PySem.W.codeIn K cd6 "relation_of_nothing" = true) (k6 : PySem.W.keepIn K (.ref f6) = true)
    (a7 : PySem.W.nsIn K mainGlobals "relation_of_letter" = some (some (.ref f7))) (l7 : K.lookup f7 = some ⟨oc7, od7, .func (PySem.W.fnOf "relation_of_letter" "relation_of_letter" (defArgs s_relation_of_letter) (defBody s_relation_of_letter) (defScope s_relation_of_letter) .none kV7 dc7 pm7 an7 cd7 ct7), sl7⟩) (c7 : PySem.W.codeIn K cd7 "relation_of_letter" = true) (k7 : PySem.W.keepIn K (.ref f7) = true)
    (a8 : PySem.W.nsIn K mainGlobals "relations_of_letters" = some (some (.ref f8))) (l8 : K.lookup f8 = some ⟨oc8, od8, .func (PySem.W.fnOf "relations_of_letters" "relations_of_letters" (defArgs s_relations_of_letters) (defBody s_relations_of_letters) (defScope s_relations_of_letters) .none kV8 dc8 pm8 an8 cd8 ct8), sl8⟩) (c8 : PySem.W.codeIn K cd8 "relations_of_letters" = true) (k8 : PySem.W.keepIn K (.ref f8) = true)
    (a9 : PySem.W.nsIn K mainGlobals "relation_of" = some (some (.ref f9))) (l9 : K.lookup f9 = some ⟨oc9, od9, .func (PySem.W.fnOf "relation_of" "relation_of" (defArgs s_relation_of) (defBody s_relation_of) (defScope s_relation_of) .none kV9 dc9 pm9 an9 cd9 ct9), sl9⟩) (c9 : PySem.W.codeIn K cd9 "relation_of" = true) (k9 : PySem.W.keepIn K (.ref f9) = true)
    (a10 : PySem.W.nsIn K mainGlobals "_law_mixed" = some (some (.ref f10))) (l10 : K.lookup f10 = some ⟨oc10, od10, .func (PySem.W.fnOf "_law_mixed" "_law_mixed" (defArgs s_mixed) (defBody s_mixed) (defScope s_mixed) .none kV10 dc10 pm10 an10 cd10 ct10), sl10⟩) (c10 : PySem.W.codeIn K cd10 "_law_mixed" = true) (k10 : PySem.W.keepIn K (.ref f10) = true)
    (a11 : PySem.W.nsIn K mainGlobals "_law_endless" = some (some (.ref f11))) (l11 : K.lookup f11 = some ⟨oc11, od11, .func (PySem.W.fnOf "_law_endless" "_law_endless" (defArgs s_endless) (defBody s_endless) (defScope s_endless) .none kV11 dc11 pm11 an11 cd11 ct11), sl11⟩) (c11 : PySem.W.codeIn K cd11 "_law_endless" = true) (k11 : PySem.W.keepIn K (.ref f11) = true)
    (a12 : PySem.W.nsIn K mainGlobals "is_number_below" = some (some (.ref f12))) (l12 : K.lookup f12 = some ⟨oc12, od12, .func (PySem.W.fnOf "is_number_below" "is_number_below" (defArgs s_is_number_below) (defBody s_is_number_below) (defScope s_is_number_below) .none kV12 dc12 pm12 an12 cd12 ct12), sl12⟩) (c12 : PySem.W.codeIn K cd12 "is_number_below" = true) (k12 : PySem.W.keepIn K (.ref f12) = true)
    (a13 : PySem.W.nsIn K mainGlobals "is_tuple_of_length" = some (some (.ref f13))) (l13 : K.lookup f13 = some ⟨oc13, od13, .func (PySem.W.fnOf "is_tuple_of_length" "is_tuple_of_length" (defArgs s_is_tuple_of_length) (defBody s_is_tuple_of_length) (defScope s_is_tuple_of_length) .none kV13 dc13 pm13 an13 cd13 ct13), sl13⟩) (c13 : PySem.W.codeIn K cd13 "is_tuple_of_length" = true) (k13 : PySem.W.keepIn K (.ref f13) = true)
    (a14 : PySem.W.nsIn K mainGlobals "is_tuple_of_numbers" = some (some (.ref f14))) (l14 : K.lookup f14 = some ⟨oc14, od14, .func (PySem.W.fnOf "is_tuple_of_numbers" "is_tuple_of_numbers" (defArgs s_is_tuple_of_numbers) (defBody s_is_tuple_of_numbers) (defScope s_is_tuple_of_numbers) .none kV14 dc14 pm14 an14 cd14 ct14), sl14⟩) (c14 : PySem.W.codeIn K cd14 "is_tuple_of_numbers" = true) (k14 : PySem.W.keepIn K (.ref f14) = true)
    (a15 : PySem.W.nsIn K mainGlobals "is_loop_word" = some (some (.ref f15))) (l15 : K.lookup f15 = some ⟨oc15, od15, .func (PySem.W.fnOf "is_loop_word" "is_loop_word" (defArgs s_is_loop_word) (defBody s_is_loop_word) (defScope s_is_loop_word) .none kV15 dc15 pm15 an15 cd15 ct15), sl15⟩) (c15 : PySem.W.codeIn K cd15 "is_loop_word" = true) (k15 : PySem.W.keepIn K (.ref f15) = true)
    (a16 : PySem.W.nsIn K mainGlobals "is_loop" = some (some (.ref f16))) (l16 : K.lookup f16 = some ⟨oc16, od16, .func (PySem.W.fnOf "is_loop" "is_loop" (defArgs s_is_loop) (defBody s_is_loop) (defScope s_is_loop) .none kV16 dc16 pm16 an16 cd16 ct16), sl16⟩) (c16 : PySem.W.codeIn K cd16 "is_loop" = true) (k16 : PySem.W.keepIn K (.ref f16) = true)
    (a17 : PySem.W.nsIn K mainGlobals "relation_of_loop" = some (some (.ref f17))) (l17 : K.lookup f17 = some ⟨oc17, od17, .func (PySem.W.fnOf "relation_of_loop" "relation_of_loop" (defArgs s_relation_of_loop) (defBody s_relation_of_loop) (defScope s_relation_of_loop) .none kV17 dc17 pm17 an17 cd17 ct17), sl17⟩) (c17 : PySem.W.codeIn K cd17 "relation_of_loop" = true) (k17 : PySem.W.keepIn K (.ref f17) = true)
    (a18 : PySem.W.nsIn K mainGlobals "is_certificate_row" = some (some (.ref f18))) (l18 : K.lookup f18 = some ⟨oc18, od18, .func (PySem.W.fnOf "is_certificate_row" "is_certificate_row" (defArgs s_is_certificate_row) (defBody s_is_certificate_row) (defScope s_is_certificate_row) .none kV18 dc18 pm18 an18 cd18 ct18), sl18⟩) (c18 : PySem.W.codeIn K cd18 "is_certificate_row" = true) (k18 : PySem.W.keepIn K (.ref f18) = true)
    (a19 : PySem.W.nsIn K mainGlobals "are_rows_in_order" = some (some (.ref f19))) (l19 : K.lookup f19 = some ⟨oc19, od19, .func (PySem.W.fnOf "are_rows_in_order" "are_rows_in_order" (defArgs s_are_rows_in_order) (defBody s_are_rows_in_order) (defScope s_are_rows_in_order) .none kV19 dc19 pm19 an19 cd19 ct19), sl19⟩) (c19 : PySem.W.codeIn K cd19 "are_rows_in_order" = true) (k19 : PySem.W.keepIn K (.ref f19) = true)
    (a20 : PySem.W.nsIn K mainGlobals "shows_certificate" = some (some (.ref f20))) (l20 : K.lookup f20 = some ⟨oc20, od20, .func (PySem.W.fnOf "shows_certificate" "shows_certificate" (defArgs s_shows_certificate) (defBody s_shows_certificate) (defScope s_shows_certificate) .none kV20 dc20 pm20 an20 cd20 ct20), sl20⟩) (c20 : PySem.W.codeIn K cd20 "shows_certificate" = true) (k20 : PySem.W.keepIn K (.ref f20) = true)
    (a21 : PySem.W.nsIn K mainGlobals "_law_turned" = some (some (.ref f21))) (l21 : K.lookup f21 = some ⟨oc21, od21, .func (PySem.W.fnOf "_law_turned" "_law_turned" (defArgs s_turned) (defBody s_turned) (defScope s_turned) .none kV21 dc21 pm21 an21 cd21 ct21), sl21⟩) (c21 : PySem.W.codeIn K cd21 "_law_turned" = true) (k21 : PySem.W.keepIn K (.ref f21) = true)
    (a22 : PySem.W.nsIn K mainGlobals "_law_papers" = some (some (.ref f22))) (l22 : K.lookup f22 = some ⟨oc22, od22, .func (PySem.W.fnOf "_law_papers" "_law_papers" (defArgs s_papers) (defBody s_papers) (defScope s_papers) .none kV22 dc22 pm22 an22 cd22 ct22), sl22⟩) (c22 : PySem.W.codeIn K cd22 "_law_papers" = true) (k22 : PySem.W.keepIn K (.ref f22) = true)
    (a23 : PySem.W.nsIn K mainGlobals "_law_bad_papers" = some (some (.ref f23))) (l23 : K.lookup f23 = some ⟨oc23, od23, .func (PySem.W.fnOf "_law_bad_papers" "_law_bad_papers" (defArgs s_bad_papers) (defBody s_bad_papers) (defScope s_bad_papers) .none kV23 dc23 pm23 an23 cd23 ct23), sl23⟩) (c23 : PySem.W.codeIn K cd23 "_law_bad_papers" = true) (k23 : PySem.W.keepIn K (.ref f23) = true)
    (a24 : PySem.W.nsIn K mainGlobals "_law_many_rows_right" = some (some (.ref f24))) (l24 : K.lookup f24 = some ⟨oc24, od24, .func (PySem.W.fnOf "_law_many_rows_right" "_law_many_rows_right" (defArgs s_many_rows_right) (defBody s_many_rows_right) (defScope s_many_rows_right) .none kV24 dc24 pm24 an24 cd24 ct24), sl24⟩) (c24 : PySem.W.codeIn K cd24 "_law_many_rows_right" = true) (k24 : PySem.W.keepIn K (.ref f24) = true)
    (a25 : PySem.W.nsIn K mainGlobals "law" = some (some (.ref f25))) (l25 : K.lookup f25 = some ⟨oc25, od25, .func (PySem.W.fnOf "law" "law" (defArgs s_law) (defBody s_law) (defScope s_law) .none kV25 dc25 pm25 an25 cd25 ct25), sl25⟩) (c25 : PySem.W.codeIn K cd25 "law" = true) (k25 : PySem.W.keepIn K (.ref f25) = true)
    {t_LONGEST_LOOP_WORD : Tok}
    (g_LONGEST_LOOP_WORD : PySem.W.nsIn K mainGlobals "LONGEST_LOOP_WORD" = some (some (.int 2000 t_LONGEST_LOOP_WORD)))
    (z_len : PySem.W.nsIn K mainGlobals "len" = some none)
    (z_range : PySem.W.nsIn K mainGlobals "range" = some none)
    (z_tuple : PySem.W.nsIn K mainGlobals "tuple" = some none)
    (z_list : PySem.W.nsIn K mainGlobals "list" = some none)
    (z_abs : PySem.W.nsIn K mainGlobals "abs" = some none)
    (z_int : PySem.W.nsIn K mainGlobals "int" = some none)
    (z_sorted : PySem.W.nsIn K mainGlobals "sorted" = some none)
    (z_set : PySem.W.nsIn K mainGlobals "set" = some none)
    (z_repr : PySem.W.nsIn K mainGlobals "repr" = some none)
    (z_max : PySem.W.nsIn K mainGlobals "max" = some none)
    (z_min : PySem.W.nsIn K mainGlobals "min" = some none)
    (z_all : PySem.W.nsIn K mainGlobals "all" = some none)
    (z_enumerate : PySem.W.nsIn K mainGlobals "enumerate" = some none)
    (z_isinstance : PySem.W.nsIn K mainGlobals "isinstance" = some none)
    (z_bool : PySem.W.nsIn K mainGlobals "bool" = some none)
    (z_str : PySem.W.nsIn K mainGlobals "str" = some none)
    (z_zip : PySem.W.nsIn K mainGlobals "zip" = some none)
    (z_sum : PySem.W.nsIn K mainGlobals "sum" = some none)
    (z_reversed : PySem.W.nsIn K mainGlobals "reversed" = some none)
    (zn_any : PySem.W.nsIn K mainGlobals "any" = some none)
    : ∃ fd : FuncData, (∀ (s : Shared) (v : Value), BindsTo s fd ⟨[v], []⟩ [("_law_script", v)]) ∧ ∀ base : Heap, K.In base → base.Ns mainGlobals mg → FnG l.prog w K mg base CX0 7 fa fd ["_law_script"] (spLaw K) := by
  have e := hfa.symm.trans (PySem.W.mg_of X G a25)
  cases e
  have T : Bt mg := ⟨PySem.W.mg_none_of X G z_len, PySem.W.mg_none_of X G z_range, PySem.W.mg_none_of X G z_tuple, PySem.W.mg_none_of X G z_list, PySem.W.mg_none_of X G z_abs, PySem.W.mg_none_of X G z_int, PySem.W.mg_none_of X G z_sorted, PySem.W.mg_none_of X G z_set, PySem.W.mg_none_of X G z_repr, PySem.W.mg_none_of X G z_max, PySem.W.mg_none_of X G z_min, PySem.W.mg_none_of X G z_all, PySem.W.mg_none_of X G z_enumerate, PySem.W.mg_none_of X G z_isinstance, PySem.W.mg_none_of X G z_bool, PySem.W.mg_none_of X G z_str, PySem.W.mg_none_of X G z_zip, PySem.W.mg_none_of X G z_sum, PySem.W.mg_none_of X G z_reversed⟩
  have F1 := fun_mk (st := s_take) l1 c1 k1
  have b1 := F1.binds (ps := ["_law_pot_here", "_law_many"]) fun _ _ _ _ _ _ us hl => match us, hl with | [_, _], _ => rfl
  have F2 := fun_mk (st := s_pot) l2 c2 k2
  have b2 := F2.binds (ps := ["_law_script", "_law_k"]) fun _ _ _ _ _ _ us hl => match us, hl with | [_, _], _ => rfl
  have F3 := fun_mk (st := s_input_count) l3 c3 k3
  have b3 := F3.binds (ps := ["judge"]) fun _ _ _ _ _ _ us hl => match us, hl with | [_], _ => rfl
  have F4 := fun_mk (st := s_states_behind) l4 c4 k4
  have b4 := F4.binds (ps := ["states", "relation"]) fun _ _ _ _ _ _ us hl => match us, hl with | [_, _], _ => rfl
  have F5 := fun_mk (st := s_composed_again) l5 c5 k5
  have b5 := F5.binds (ps := ["one", "other", "known"]) fun _ _ _ _ _ _ us hl => match us, hl with | [_, _, _], _ => rfl
  have F6 := fun_mk (st := s_relation_of_nothing) l6 c6 k6
  have b6 := F6.binds (ps := ["judge"]) fun _ _ _ _ _ _ us hl => match us, hl with | [_], _ => rfl
  have F7 := fun_mk (st := s_relation_of_letter) l7 c7 k7
  have b7 := F7.binds (ps := ["judge", "x"]) fun _ _ _ _ _ _ us hl => match us, hl with | [_, _], _ => rfl
  have F8 := fun_mk (st := s_relations_of_letters) l8 c8 k8
  have b8 := F8.binds (ps := ["judge"]) fun _ _ _ _ _ _ us hl => match us, hl with | [_], _ => rfl
  have F9 := fun_mk (st := s_relation_of) l9 c9 k9
  have b9 := F9.binds (ps := ["judge", "inputs"]) fun _ _ _ _ _ _ us hl => match us, hl with | [_, _], _ => rfl
  have F10 := fun_mk (st := s_mixed) l10 c10 k10
  have b10 := F10.binds (ps := ["_law_pot_here", "_law_some"]) fun _ _ _ _ _ _ us hl => match us, hl with | [_, _], _ => rfl
  have F11 := fun_mk (st := s_endless) l11 c11 k11
  have b11 := F11.binds (ps := []) fun _ _ _ _ _ _ us hl => match us, hl with | [], _ => rfl
  have F12 := fun_mk (st := s_is_number_below) l12 c12 k12
  have b12 := F12.binds (ps := ["value", "limit"]) fun _ _ _ _ _ _ us hl => match us, hl with | [_, _], _ => rfl
  have F13 := fun_mk (st := s_is_tuple_of_length) l13 c13 k13
  have b13 := F13.binds (ps := ["value", "length"]) fun _ _ _ _ _ _ us hl => match us, hl with | [_, _], _ => rfl
  have F14 := fun_mk (st := s_is_tuple_of_numbers) l14 c14 k14
  have b14 := F14.binds (ps := ["value", "limit"]) fun _ _ _ _ _ _ us hl => match us, hl with | [_, _], _ => rfl
  have F15 := fun_mk (st := s_is_loop_word) l15 c15 k15
  have b15 := F15.binds (ps := ["judge", "value"]) fun _ _ _ _ _ _ us hl => match us, hl with | [_, _], _ => rfl
  have F16 := fun_mk (st := s_is_loop) l16 c16 k16
  have b16 := F16.binds (ps := ["judge", "value"]) fun _ _ _ _ _ _ us hl => match us, hl with | [_, _], _ => rfl
  have F17 := fun_mk (st := s_relation_of_loop) l17 c17 k17
  have b17 := F17.binds (ps := ["judge", "loop"]) fun _ _ _ _ _ _ us hl => match us, hl with | [_, _], _ => rfl
  have F18 := fun_mk (st := s_is_certificate_row) l18 c18 k18
  have b18 := F18.binds (ps := ["judge", "blocks", "value"]) fun _ _ _ _ _ _ us hl => match us, hl with | [_, _, _], _ => rfl
  have F19 := fun_mk (st := s_are_rows_in_order) l19 c19 k19
  have b19 := F19.binds (ps := ["relations", "rows"]) fun _ _ _ _ _ _ us hl => match us, hl with | [_, _], _ => rfl
  have F20 := fun_mk (st := s_shows_certificate) l20 c20 k20
  have b20 := F20.binds (ps := ["judge", "value"]) fun _ _ _ _ _ _ us hl => match us, hl with | [_, _], _ => rfl
  have F21 := fun_mk (st := s_turned) l21 c21 k21
  have b21 := F21.binds (ps := ["_law_judge", "_law_order", "_law_xs", "_law_ys"]) fun _ _ _ _ _ _ us hl => match us, hl with | [_, _, _, _], _ => rfl
  have F22 := fun_mk (st := s_papers) l22 c22 k22
  have b22 := F22.binds (ps := ["_law_pot_here", "_law_order", "_law_xs"]) fun _ _ _ _ _ _ us hl => match us, hl with | [_, _, _], _ => rfl
  have F23 := fun_mk (st := s_bad_papers) l23 c23 k23
  have b23 := F23.binds (ps := ["_law_blocks", "_law_rows", "_law_order", "_law_xs"]) fun _ _ _ _ _ _ us hl => match us, hl with | [_, _, _, _], _ => rfl
  have F24 := fun_mk (st := s_many_rows_right) l24 c24 k24
  have b24 := F24.binds (ps := ["_law_pot_here"]) fun _ _ _ _ _ _ us hl => match us, hl with | [_], _ => rfl
  have F25 := fun_mk (st := s_law) l25 c25 k25
  have b25 := F25.binds (ps := ["_law_script"]) fun _ _ _ _ _ _ us hl => match us, hl with | [_], _ => rfl
  refine ⟨PySem.W.fnOf "law" "law" (defArgs s_law) (defBody s_law) (defScope s_law) .none kV25 dc25 pm25 an25 cd25 ct25, fun s v => .of_eq rfl, fun base _ _ => ?_⟩
  have z_any := PySem.W.mg_none_of X G zn_any
  have cl1 : C8.Cal l.prog w K mg base 1 "_law_take" spTake [] := ⟨f1, _, _, [], ok_take F1 , PySem.W.mg_of X G a1, k1, b1, .nil⟩
  have cl2 : C8.Cal l.prog w K mg base 1 "_law_pot" (spPot K) [] := ⟨f2, _, _, [], ok_pot F2 T, PySem.W.mg_of X G a2, k2, b2, .nil⟩
  have cl3 : C8.Cal l.prog w K mg base 1 "input_count" (spInC K) [] := ⟨f3, _, _, [], ok_input_count F3 T, PySem.W.mg_of X G a3, k3, b3, .nil⟩
  have cl4 : C8.Cal l.prog w K mg base 1 "states_behind" (spBhd K) [] := ⟨f4, _, _, [], ok_states_behind F4 T, PySem.W.mg_of X G a4, k4, b4, .nil⟩
  have cl5 : C8.Cal l.prog w K mg base 2 "composed_again" (spCompA K l.prog w) [] := ⟨f5, _, _, [], ok_composed_again F5 T cl4, PySem.W.mg_of X G a5, k5, b5, .nil⟩
  have cl6 : C8.Cal l.prog w K mg base 1 "relation_of_nothing" (spNoth K) [] := ⟨f6, _, _, [], ok_relation_of_nothing F6 T, PySem.W.mg_of X G a6, k6, b6, .nil⟩
  have cl7 : C8.Cal l.prog w K mg base 1 "relation_of_letter" (spRLet K) [] := ⟨f7, _, _, [], ok_relation_of_letter F7 T, PySem.W.mg_of X G a7, k7, b7, .nil⟩
  have cl8 : C8.Cal l.prog w K mg base 2 "relations_of_letters" (spRLets K) [] := ⟨f8, _, _, [], ok_relations_of_letters F8 T cl3 cl7, PySem.W.mg_of X G a8, k8, b8, .nil⟩
  have cl9 : C8.Cal l.prog w K mg base 3 "relation_of" (spRelOf K) [] := ⟨f9, _, _, [], ok_relation_of F9 T cl8 cl6 cl5, PySem.W.mg_of X G a9, k9, b9, .nil⟩
  have ck9 : CalK l.prog w K mg base 3 "relation_of" (spRelOf K) ["inputs", "judge"] swapV := ⟨f9, _, _, _, ok_relation_of F9 T cl8 cl6 cl5, PySem.W.mg_of X G a9, k9, kbinds F9 (by decide) fun _ _ _ _ _ _ ws hl => match ws, hl with | [_, _], _ => rfl⟩
  have cl10 : C8.Cal l.prog w K mg base 2 "_law_mixed" (spMixed K) [] := ⟨f10, _, _, [], ok_mixed F10 T cl1, PySem.W.mg_of X G a10, k10, b10, .nil⟩
  have cl11 : C8.Cal l.prog w K mg base 1 "_law_endless" (spEndless K) [] := ⟨f11, _, _, [], ok_endless F11 T, PySem.W.mg_of X G a11, k11, b11, .nil⟩
  have cl12 : C8.Cal l.prog w K mg base 1 "is_number_below" (spNB K) [] := ⟨f12, _, _, [], ok_is_number_below F12 T, PySem.W.mg_of X G a12, k12, b12, .nil⟩
  have cl13 : C8.Cal l.prog w K mg base 1 "is_tuple_of_length" (spTL K) [] := ⟨f13, _, _, [], ok_is_tuple_of_length F13 T, PySem.W.mg_of X G a13, k13, b13, .nil⟩
  have cl14 : C8.Cal l.prog w K mg base 2 "is_tuple_of_numbers" (spLet K) [] := ⟨f14, _, _, [], ok_is_tuple_of_numbers F14 T cl12, PySem.W.mg_of X G a14, k14, b14, .nil⟩
  have cl15 : C8.Cal l.prog w K mg base 3 "is_loop_word" (spLoopWd K) [] := ⟨f15, _, _, [], ok_is_loop_word F15 T ⟨_, PySem.W.mg_of X G g_LONGEST_LOOP_WORD⟩ cl3 cl14, PySem.W.mg_of X G a15, k15, b15, .nil⟩
  have cl16 : C8.Cal l.prog w K mg base 4 "is_loop" (spIsLoop K) [] := ⟨f16, _, _, [], ok_is_loop F16 T cl13 cl15 cl9, PySem.W.mg_of X G a16, k16, b16, .nil⟩
  have cl17 : C8.Cal l.prog w K mg base 4 "relation_of_loop" (spLpRel K) [] := ⟨f17, _, _, [], ok_relation_of_loop F17 T cl9, PySem.W.mg_of X G a17, k17, b17, .nil⟩
  have cl18 : C8.Cal l.prog w K mg base 2 "is_certificate_row" (spCRow K) [] := ⟨f18, _, _, [], ok_is_certificate_row F18 T cl13 cl12, PySem.W.mg_of X G a18, k18, b18, .nil⟩
  have cl19 : C8.Cal l.prog w K mg base 1 "are_rows_in_order" (spROrd K l.prog w) [] := ⟨f19, _, _, [], ok_are_rows_in_order F19 T, PySem.W.mg_of X G a19, k19, b19, .nil⟩
  have cl20 : C8.Cal l.prog w K mg base 5 "shows_certificate" (spShowsCrt K) [] := ⟨f20, _, _, [], ok_shows_certificate F20 T cl13 cl16 cl18 cl17 cl19, PySem.W.mg_of X G a20, k20, b20, .nil⟩
  have cl21 : C8.Cal l.prog w K mg base 1 "_law_turned" (spTurnV K false false) [] := ⟨f21, _, _, [], ok_turned F21 T, PySem.W.mg_of X G a21, k21, b21, .nil⟩
  have cl22 : C8.Cal l.prog w K mg base 2 "_law_papers" (spPapers56 K) [] := ⟨f22, _, _, [], ok_papers F22 T cl1, PySem.W.mg_of X G a22, k22, b22, .nil⟩
  have cl23 : C8.Cal l.prog w K mg base 1 "_law_bad_papers" (spBad56 K) [] := ⟨f23, _, _, [], ok_bad_papers F23 T, PySem.W.mg_of X G a23, k23, b23, .nil⟩
  have cl24 : C8.Cal l.prog w K mg base 6 "_law_many_rows_right" (spMany56 K) [] := ⟨f24, _, _, [], ok_many_rows_right F24 T cl1 cl20, PySem.W.mg_of X G a24, k24, b24, .nil⟩
  exact ok_law F25 T cl2 cl10 cl11 cl21 cl22 cl23 cl24 cl20
end LA
open PySem PySem.W PyProof.Rows in
set_option maxRecDepth 100000 in
set_option maxHeartbeats 0 in
theorem PySem.Challenge.cw_leastahead_k56_certificates_by_hand_holds : PySem.Challenge.rw_leastahead_k56_certificates_by_hand.Holds := by
  w_on; o_law; k_head; (case hw => w_witness2)
  k_fill
  refine LA.walkG (l := PySem.Challenge.rw_leastahead_k56_certificates_by_hand) (n := 63) (k := 7) (sp := LA.spLaw) (x := "_law_script") rfl (by decide) rfl ⟨rfl, by decide, by decide⟩ (fun w h Y => PySem.W.kIn_of Y) ?F (fun K H a ns hl hS => ⟨a, ns, rfl, hS, hl, fun _ => rfl⟩)
  case F =>
    intro w mg fa h KX G hmg
    refine' LA.all_mk KX G hmg ?a1 ?l1 ?c1 ?k1 ?a2 ?l2 ?c2 ?k2 ?a3 ?l3 ?c3 ?k3 ?a4 ?l4 ?c4 ?k4 ?a5 ?l5 ?c5 ?k5 ?a6 ?l6 ?c6 ?k6 ?a7 ?l7 ?c7 ?k7 ?a8 ?l8 ?c8 ?k8 ?a9 ?l9 ?c9 ?k9 ?a10 ?l10 ?c10 ?k10 ?a11 ?l11 ?c11 ?k11 ?a12 ?l12 ?c12 ?k12 ?a13 ?l13 ?c13 ?k13 ?a14 ?l14 ?c14 ?k14 ?a15 ?l15 ?c15 ?k15 ?a16 ?l16 ?c16 ?k16 ?a17 ?l17 ?c17 ?k17 ?a18 ?l18 ?c18 ?k18 ?a19 ?l19 ?c19 ?k19 ?a20 ?l20 ?c20 ?k20 ?a21 ?l21 ?c21 ?k21 ?a22 ?l22 ?c22 ?k22 ?a23 ?l23 ?c23 ?k23 ?a24 ?l24 ?c24 ?k24 ?a25 ?l25 ?c25 ?k25 ?g_LONGEST_LOOP_WORD ?z_len ?z_range ?z_tuple ?z_list ?z_abs ?z_int ?z_sorted ?z_set ?z_repr ?z_max ?z_min ?z_all ?z_enumerate ?z_isinstance ?z_bool ?z_str ?z_zip ?z_sum ?z_reversed ?zn_any
    (case a1 => k_is)
    (case l1 => k_is)
    (case c1 => k_is)
    (case k1 => k_is)
    (case a2 => k_is)
    (case l2 => k_is)
    (case c2 => k_is)
    (case k2 => k_is)
    (case a3 => k_is)
    (case l3 => k_is)
    (case c3 => k_is)
    (case k3 => k_is)
    (case a4 => k_is)
    (case l4 => k_is)
    (case c4 => k_is)
    (case k4 => k_is)
    (case a5 => k_is)
    (case l5 => k_is)
    (case c5 => k_is)
    (case k5 => k_is)
    (case a6 => k_is)
    (case l6 => k_is)
    (case c6 => k_is)
    (case k6 => k_is)
    (case a7 => k_is)
    (case l7 => k_is)
    (case c7 => k_is)
    (case k7 => k_is)
    (case a8 => k_is)
    (case l8 => k_is)
    (case c8 => k_is)
    (case k8 => k_is)
    (case a9 => k_is)
    (case l9 => k_is)
    (case c9 => k_is)
    (case k9 => k_is)
    (case a10 => k_is)
    (case l10 => k_is)
    (case c10 => k_is)
    (case k10 => k_is)
    (case a11 => k_is)
    (case l11 => k_is)
    (case c11 => k_is)
    (case k11 => k_is)
    (case a12 => k_is)
    (case l12 => k_is)
    (case c12 => k_is)
    (case k12 => k_is)
    (case a13 => k_is)
    (case l13 => k_is)
    (case c13 => k_is)
    (case k13 => k_is)
    (case a14 => k_is)
    (case l14 => k_is)
    (case c14 => k_is)
    (case k14 => k_is)
    (case a15 => k_is)
    (case l15 => k_is)
    (case c15 => k_is)
    (case k15 => k_is)
    (case a16 => k_is)
    (case l16 => k_is)
    (case c16 => k_is)
    (case k16 => k_is)
    (case a17 => k_is)
    (case l17 => k_is)
    (case c17 => k_is)
    (case k17 => k_is)
    (case a18 => k_is)
    (case l18 => k_is)
    (case c18 => k_is)
    (case k18 => k_is)
    (case a19 => k_is)
    (case l19 => k_is)
    (case c19 => k_is)
    (case k19 => k_is)
    (case a20 => k_is)
    (case l20 => k_is)
    (case c20 => k_is)
    (case k20 => k_is)
    (case a21 => k_is)
    (case l21 => k_is)
    (case c21 => k_is)
    (case k21 => k_is)
    (case a22 => k_is)
    (case l22 => k_is)
    (case c22 => k_is)
    (case k22 => k_is)
    (case a23 => k_is)
    (case l23 => k_is)
    (case c23 => k_is)
    (case k23 => k_is)
    (case a24 => k_is)
    (case l24 => k_is)
    (case c24 => k_is)
    (case k24 => k_is)
    (case a25 => k_is)
    (case l25 => k_is)
    (case c25 => k_is)
    (case k25 => k_is)
    (case g_LONGEST_LOOP_WORD => k_is)
    (case z_len => k_is)
    (case z_range => k_is)
    (case z_tuple => k_is)
    (case z_list => k_is)
    (case z_abs => k_is)
    (case z_int => k_is)
    (case z_sorted => k_is)
    (case z_set => k_is)
    (case z_repr => k_is)
    (case z_max => k_is)
    (case z_min => k_is)
    (case z_all => k_is)
    (case z_enumerate => k_is)
    (case z_isinstance => k_is)
    (case z_bool => k_is)
    (case z_str => k_is)
    (case z_zip => k_is)
    (case z_sum => k_is)
    (case z_reversed => k_is)
    (case zn_any => k_is)


