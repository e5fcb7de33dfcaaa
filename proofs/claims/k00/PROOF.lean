import PyProof.Rows.All
import Wide.All
import OpenK.AllK
import Wide.FinOn
import HandS.ForMost
import HandS.TupAny
import HandS.Deep
import HandS.IsInst
import HandS.Style
import HandS.Zip
import HandS.ForExc
import HandS.FStrTup
import HandS.TupMul
import HandS.ExcField
import HandS.Defaults
import HandS.ExcOwn
import KE.KExcIs
import HandS.ExcIs
import KE.GoesEnum
import PyProof.Conv_int_bool
import PySem.Challenge.RW_marktopples_k00_trees_judged
set_option Elab.async false
set_option linter.all false
set_option maxRecDepth 100000
/-! A pure reading of bodies: values as data, mutable objects by tags. -/
namespace Pf
open PySem PySem.Spec PyProof.Rows L2

/-! ### data -/
mutual
inductive Dq (K : PySem.W.Frag) (H : Hp) : V → PyData → Prop
  | non : Dq K H .non .none
  | bl (b : Bool) : Dq K H (.bl b) (.bool b)
  | int (i : Int) : Dq K H (.int i) (.int i)
  | str (x : Str) : Dq K H (.str x) (.str x)
  | lst {a : Addr} {xs : List V} {ds : List PyData} (h : H a = some (.lst xs)) (r : Dqs K H xs ds) : Dq K H (.ref a) (.list ds)
  | tup {a : Addr} {xs : List V} {ds : List PyData} (h : SqT K H a xs) (r : Dqs K H xs ds) : Dq K H (.ref a) (.tuple ds)
  | dct {a : Addr} {kvs : List (Key × V)} {ds : List (PyData × PyData)} (h : H a = some (.dK kvs)) (r : Dqk K H kvs ds) : Dq K H (.ref a) (.dict ds)
inductive Dqs (K : PySem.W.Frag) (H : Hp) : List V → List PyData → Prop
  | nil : Dqs K H [] []
  | cons {v : V} {vs : List V} {d : PyData} {ds : List PyData} (h : Dq K H v d) (r : Dqs K H vs ds) : Dqs K H (v :: vs) (d :: ds)
inductive Dqk (K : PySem.W.Frag) (H : Hp) : List (Key × V) → List (PyData × PyData) → Prop
  | nil : Dqk K H [] []
  | cons {k : Key} {v : V} {vs : List (Key × V)} {c d : PyData} {ds : List (PyData × PyData)} (hk : Dq K H (kV k) c) (h : Dq K H v d) (r : Dqk K H vs ds) : Dqk K H ((k, v) :: vs) ((c, d) :: ds)
end

theorem seqT_mono {K : PySem.W.Frag} {H H' : Hp} {a : Addr} {xs : List V} (e : Same H H') (h : SqT K H a xs) : SqT K H' a xs := by
  rcases h with (h | ⟨o, h⟩) | h
  · exact .inl (.inl (e _ _ h))
  · exact .inl (.inr ⟨o, e _ _ h⟩)
  · exact .inr h

section
variable {K : PySem.W.Frag} {H H' : Hp}
mutual
theorem Dq.mono (e : Same H H') : ∀ {v : V} {d : PyData}, Dq K H v d → Dq K H' v d
  | _, _, .non => .non
  | _, _, .bl b => .bl b
  | _, _, .int b => .int b
  | _, _, .str b => .str b
  | _, _, .lst h r => .lst (e _ _ h) (Dqs.mono e r)
  | _, _, .tup h r => .tup (seqT_mono e h) (Dqs.mono e r)
  | _, _, .dct h r => .dct (e _ _ h) (Dqk.mono e r)
theorem Dqs.mono (e : Same H H') : ∀ {v : List V} {d : List PyData}, Dqs K H v d → Dqs K H' v d
  | _, _, .nil => .nil
  | _, _, .cons h r => .cons (Dq.mono e h) (Dqs.mono e r)
theorem Dqk.mono (e : Same H H') : ∀ {v : List (Key × V)} {d : List (PyData × PyData)}, Dqk K H v d → Dqk K H' v d
  | _, _, .nil => .nil
  | _, _, .cons k h r => .cons (Dq.mono e k) (Dq.mono e h) (Dqk.mono e r)
end
end

theorem Dqs.len {K : PySem.W.Frag} {H : Hp} : ∀ {v : List V} {d : List PyData}, Dqs K H v d → v.length = d.length
  | _, _, .nil => rfl
  | _, _, .cons _ r => by rw [List.length_cons, List.length_cons, Dqs.len r]
theorem Dqs.get {K : PySem.W.Frag} {H : Hp} : ∀ {v : List V} {d : List PyData} {i : Nat} {x : V}, Dqs K H v d → v[i]? = some x → ∃ y, d[i]? = some y ∧ Dq K H x y
  | _, _, _, _, .nil, h => by simp at h
  | _, _, 0, _, .cons h r, q => by
    simp at q
    subst q
    exact ⟨_, rfl, h⟩
  | _, _, i + 1, _, .cons h r, q => by
    obtain ⟨y, e, z⟩ := Dqs.get (i := i) r (by simpa using q)
    exact ⟨y, by simpa using e, z⟩
theorem Dqs.getD {K : PySem.W.Frag} {H : Hp} {v : List V} {d : List PyData} {i : Nat} {y : PyData} (r : Dqs K H v d) (q : d[i]? = some y) : ∃ x, v[i]? = some x ∧ Dq K H x y := by
  have hi : i < v.length := by
    rw [r.len]
    exact (List.getElem?_eq_some_iff.mp q).1
  obtain ⟨z, e, h⟩ := r.get (List.getElem?_eq_getElem hi)
  rw [q] at e
  cases e
  exact ⟨_, List.getElem?_eq_getElem hi, h⟩
theorem Dqs.append {K : PySem.W.Frag} {H : Hp} : ∀ {v : List V} {d : List PyData} {v' : List V} {d' : List PyData}, Dqs K H v d → Dqs K H v' d' → Dqs K H (v ++ v') (d ++ d')
  | _, _, _, _, .nil, s => s
  | _, _, _, _, .cons h r, s => .cons h (Dqs.append r s)
theorem Dqs.take {K : PySem.W.Frag} {H : Hp} : ∀ {v : List V} {d : List PyData} (n : Nat), Dqs K H v d → Dqs K H (v.take n) (d.take n)
  | _, _, 0, _ => .nil
  | _, _, _ + 1, .nil => .nil
  | _, _, n + 1, .cons h r => .cons h (Dqs.take n r)
theorem Dqs.drop {K : PySem.W.Frag} {H : Hp} : ∀ {v : List V} {d : List PyData} (n : Nat), Dqs K H v d → Dqs K H (v.drop n) (d.drop n)
  | _, _, 0, r => r
  | _, _, _ + 1, .nil => .nil
  | _, _, n + 1, .cons _ r => Dqs.drop n r
theorem Dqs.reverse {K : PySem.W.Frag} {H : Hp} : ∀ {v : List V} {d : List PyData}, Dqs K H v d → Dqs K H v.reverse d.reverse
  | _, _, .nil => .nil
  | _, _, .cons h r => by
    rw [List.reverse_cons, List.reverse_cons]
    exact (Dqs.reverse r).append (.cons h .nil)

/-! ### reading the true heap -/
theorem Dqk.keys {K : PySem.W.Frag} {H : Hp} : ∀ {v : List (Key × V)} {d : List (PyData × PyData)}, Dqk K H v d → Dqs K H (v.map fun p => kV p.1) (d.map (·.1))
  | _, _, .nil => .nil
  | _, _, .cons k _ r => .cons k (Dqk.keys r)
theorem Dqk.vals {K : PySem.W.Frag} {H : Hp} : ∀ {v : List (Key × V)} {d : List (PyData × PyData)}, Dqk K H v d → Dqs K H (v.map (·.2)) (d.map (·.2))
  | _, _, .nil => .nil
  | _, _, .cons _ h r => .cons h (Dqk.vals r)
theorem rel_key {k : Key} {v : Value} (h : keyIs k v = true) : RelV (kV k) v := by
  rcases keyIs_shape h with ⟨i, t, rfl, rfl⟩ | ⟨x, t, rfl, rfl⟩
  · exact ⟨t, rfl⟩
  · exact ⟨t, rfl⟩
theorem pair_vals {P : Program} {w : World} : ∀ {kvs : List (Key × V)} {vs : List (Key × Value)} {es : List DictEntry}, KV kvs vs → Pairs (mixKind P w) es vs → Vals (kvs.map fun p => kV p.1) (es.map (·.key)) ∧ Vals (kvs.map (·.2)) (es.map (·.val))
  | _, _, _, .nil, .nil => ⟨.nil, .nil⟩
  | _, _, _, .cons h r, .cons h1 h2 h3 => by
    obtain ⟨a, b⟩ := pair_vals r h3
    refine ⟨.cons ?_ a, .cons ?_ b⟩
    · dsimp only
      rw [h.1]
      exact rel_key h1
    · dsimp only
      rw [h2]
      exact h.2
/-- no list within -/
def bare : PyData → Bool
  | .list _ => false
  | .tuple ds => bareAll ds
  | .dict ds => bareKv ds
  | _ => true
where
  bareAll : List PyData → Bool
  | [] => true
  | d :: ds => bare d && bareAll ds
  bareKv : List (PyData × PyData) → Bool
  | [] => true
  | (c, d) :: ds => bare c && bare d && bareKv ds
section
variable {X : Cx} {pins : List (Addr × Obj)} {σ : L2.St} {H : Hp} {s : Shared}
mutual
theorem Dq.reads (I : Inv X pins σ H s) : ∀ {v : V} {d : PyData} {u : Value}, Dq X.K H v d → RelV v u → ∃ as, Reads s.heap u d as ∧ (bare d = true → sysModules ∉ as)
  | _, _, _, .non, r => by
    cases r
    exact ⟨_, Reads.none, fun _ z => nomatch z⟩
  | _, _, _, .bl b, r => by
    cases r
    exact ⟨_, Reads.bool b, fun _ z => nomatch z⟩
  | _, _, _, .int i, r => by
    obtain ⟨t, rfl⟩ := r
    exact ⟨_, Reads.int i t, fun _ z => nomatch z⟩
  | _, _, _, .str x, r => by
    obtain ⟨t, rfl⟩ := r
    exact ⟨_, Reads.str x t, fun _ z => nomatch z⟩
  | _, _, _, .lst hs ha, r => by
    cases r
    obtain ⟨its, rv, ⟨o, n, ho, hc, _, hd⟩, _⟩ := I.list (SqL.of hs)
    obtain ⟨as, hr, _⟩ := Dqs.reads I ha rv
    exact ⟨_, Reads.list ho hc hd hr, fun z => by simp [bare] at z⟩
  | _, _, _, .tup hs ha, r => by
    cases r
    obtain ⟨its, rv, ⟨o, ho, hc, n, hd⟩, _⟩ := I.tuple hs
    obtain ⟨as, hr, hb⟩ := Dqs.reads I ha rv
    exact ⟨_, Reads.tuple ho hc hd hr, fun z => hb (by simpa only [bare] using z)⟩
  | _, _, _, .dct hs ha, r => by
    cases r
    obtain ⟨_, hsm, vs, kv, o, es, ep, ho, hx, hd, _, hp, _⟩ := I.hok _ _ hs
    obtain ⟨r1, r2⟩ := pair_vals kv hp
    obtain ⟨as, bs, q1, q2, hb⟩ := Dqk.reads I ha r1 r2
    refine ⟨_, Reads.dict ho hx.1 hd q1 q2, fun z => ?_⟩
    have z2 := hb (by simpa only [bare] using z)
    intro hm
    rcases List.mem_append.mp hm with hm | hm
    · rcases List.mem_cons.mp hm with hm | hm
      · rw [← hm] at hsm
        simp at hsm
      · exact z2.1 hm
    · exact z2.2 hm
theorem Dqs.reads (I : Inv X pins σ H s) : ∀ {vs : List V} {ds : List PyData} {us : List Value}, Dqs X.K H vs ds → Vals vs us → ∃ as, ReadsAll s.heap us ds as ∧ (bare.bareAll ds = true → sysModules ∉ as)
  | _, _, _, .nil, r => by
    cases r
    exact ⟨_, ReadsAll.nil, fun _ z => nomatch z⟩
  | _, d :: ds, _, .cons h1 h2, r => by
    cases r with
    | cons r1 r2 =>
      obtain ⟨as, q1, b1⟩ := Dq.reads I h1 r1
      obtain ⟨bs, q2, b2⟩ := Dqs.reads I h2 r2
      refine ⟨_, ReadsAll.cons q1 q2, fun z hm => ?_⟩
      have z' : bare d = true ∧ bare.bareAll ds = true := by simpa only [bare.bareAll, Bool.and_eq_true] using z
      rcases List.mem_append.mp hm with hm | hm
      · exact b1 z'.1 hm
      · exact b2 z'.2 hm
theorem Dqk.reads (I : Inv X pins σ H s) : ∀ {kvs : List (Key × V)} {ds : List (PyData × PyData)} {ks us : List Value}, Dqk X.K H kvs ds → Vals (kvs.map fun p => kV p.1) ks → Vals (kvs.map (·.2)) us →
    ∃ as bs, ReadsAll s.heap ks (ds.map (·.1)) as ∧ ReadsAll s.heap us (ds.map (·.2)) bs ∧ (bare.bareKv ds = true → sysModules ∉ as ∧ sysModules ∉ bs)
  | _, _, _, _, .nil, r1, r2 => by
    cases r1
    cases r2
    exact ⟨_, _, ReadsAll.nil, ReadsAll.nil, fun _ => ⟨fun z => (nomatch z), fun z => nomatch z⟩⟩
  | _, (c, d) :: ds, _, _, .cons hk h1 h2, r, r' => by
    cases r with
    | cons r1 r2 =>
      cases r' with
      | cons r3 r4 =>
        obtain ⟨cs, q0, b0⟩ := Dq.reads I hk r1
        obtain ⟨ds', q1, b1⟩ := Dq.reads I h1 r3
        obtain ⟨as, bs, q2, q3, b2⟩ := Dqk.reads I h2 r2 r4
        refine ⟨_, _, ReadsAll.cons q0 q2, ReadsAll.cons q1 q3, fun z => ?_⟩
        have z' : (bare c = true ∧ bare d = true) ∧ bare.bareKv ds = true := by simpa only [bare.bareKv, Bool.and_eq_true] using z
        have z2 := b2 z'.2
        refine ⟨fun hm => ?_, fun hm => ?_⟩
        · rcases List.mem_append.mp hm with hm | hm
          · exact b0 z'.1.1 hm
          · exact z2.1 hm
        · rcases List.mem_append.mp hm with hm | hm
          · exact b1 z'.1.2 hm
          · exact z2.2 hm
end
end

/-! ### mutable objects by tags, the state -/
inductive Sv where
  | dat (d : PyData)
  | ref (t : Nat)
  | scr (ns : List Int)
inductive MObj where
  | lst (xs : List Sv)
  | gone
abbrev Mu := List MObj
abbrev Rho := List (Option Sv)
/-- a world: where the tagged objects stand, and the part of the heap that never changes -/
structure Wd where
  η : Nat → Addr
  S : Hp
def SvR (K : PySem.W.Frag) (W : Wd) (n : Nat) : V → Sv → Prop
  | v, .dat d => Dq K W.S v d
  | v, .ref t => t < n ∧ v = .ref (W.η t)
  | v, .scr ns => ∃ a, v = .ref a ∧ SqL K W.S a (ns.map V.int)
abbrev SvRs (K : PySem.W.Frag) (W : Wd) (n : Nat) : List V → List Sv → Prop := Paired (SvR K W n)
def ObR (K : PySem.W.Frag) (W : Wd) (n : Nat) (H : Hp) (a : Addr) : MObj → Prop
  | .lst xs => ∃ vs, H a = some (.lst vs) ∧ SvRs K W n vs xs
  | .gone => True
def alive : MObj → Bool
  | .gone => false
  | _ => true
structure Rel (K : PySem.W.Frag) (W : Wd) (H : Hp) (μ : Mu) : Prop where
  sub : Same W.S H
  obj : ∀ i o, μ[i]? = some o → ObR K W μ.length H (W.η i) o
  own : ∀ i o, μ[i]? = some o → alive o = true → W.S (W.η i) = none
  inj : ∀ i j o o', μ[i]? = some o → μ[j]? = some o' → alive o = true → alive o' = true → W.η i = W.η j → i = j
structure Gr0 (W : Wd) (n : Nat) (W' : Wd) (n' : Nat) : Prop where
  le : n ≤ n'
  same : Same W.S W'.S
  at_ : ∀ i, i < n → W'.η i = W.η i
theorem Gr0.refl (W : Wd) (n : Nat) : Gr0 W n W n := ⟨Nat.le_refl _, Same.refl _, fun _ _ => rfl⟩
theorem Gr0.trans {W W1 W2 : Wd} {n n1 n2 : Nat} (a : Gr0 W n W1 n1) (b : Gr0 W1 n1 W2 n2) : Gr0 W n W2 n2 :=
  ⟨Nat.le_trans a.le b.le, a.same.trans b.same, fun i h => (b.at_ i (Nat.lt_of_lt_of_le h a.le)).trans (a.at_ i h)⟩
theorem SvR.grow0 {K : PySem.W.Frag} {W W' : Wd} {n n' : Nat} (g : Gr0 W n W' n') : ∀ {v : V} {x : Sv}, SvR K W n v x → SvR K W' n' v x
  | _, .dat _, h => Dq.mono g.same h
  | _, .ref t, h => ⟨Nat.lt_of_lt_of_le h.1 g.le, by rw [h.2, g.at_ t h.1]⟩
  | _, .scr _, ⟨a, e, h⟩ => ⟨a, e, g.same.seq h⟩
theorem SvRs.grow0 {K : PySem.W.Frag} {W W' : Wd} {n n' : Nat} (g : Gr0 W n W' n') : ∀ {v : List V} {x : List Sv}, SvRs K W n v x → SvRs K W' n' v x
  | _, _, .nil => .nil
  | _, _, .cons h r => .cons (SvR.grow0 g h) (SvRs.grow0 g r)
theorem SvRs.len {K : PySem.W.Frag} {W : Wd} {n : Nat} {v : List V} {x : List Sv} (h : SvRs K W n v x) : v.length = x.length := Paired.length h
theorem SvRs.get {K : PySem.W.Frag} {W : Wd} {n : Nat} : ∀ {v : List V} {x : List Sv} {i : Nat} {y : Sv}, SvRs K W n v x → x[i]? = some y → ∃ u, v[i]? = some u ∧ SvR K W n u y
  | _, _, _, _, .nil, e => by simp at e
  | _, _, 0, _, .cons r _, e => by
    simp at e
    subst e
    exact ⟨_, rfl, r⟩
  | _, _, i + 1, y, .cons _ t, e => by
    obtain ⟨u, h1, h2⟩ := SvRs.get (i := i) (y := y) t (by simpa using e)
    exact ⟨u, by simpa using h1, h2⟩
theorem SvRs.set {K : PySem.W.Frag} {W : Wd} {n : Nat} {u : V} {y : Sv} (r : SvR K W n u y) : ∀ {v : List V} {x : List Sv} (i : Nat), SvRs K W n v x → SvRs K W n (v.set i u) (x.set i y)
  | _, _, _, .nil => .nil
  | _, _, 0, .cons _ t => .cons r t
  | _, _, i + 1, .cons q t => .cons q (SvRs.set r i t)
theorem SvRs.append {K : PySem.W.Frag} {W : Wd} {n : Nat} : ∀ {v v' : List V} {x x' : List Sv}, SvRs K W n v x → SvRs K W n v' x' → SvRs K W n (v ++ v') (x ++ x')
  | _, _, _, _, .nil, s => s
  | _, _, _, _, .cons r t, s => .cons r (SvRs.append t s)
/-- the data of a list of values -/
def dats : List Sv → Option (List PyData)
  | [] => some []
  | .dat d :: r => (dats r).map (d :: ·)
  | _ :: _ => none
theorem dats_rel {K : PySem.W.Frag} {W : Wd} {n : Nat} : ∀ {v : List V} {x : List Sv} {ds : List PyData}, SvRs K W n v x → dats x = some ds → Dqs K W.S v ds
  | _, _, _, .nil, e => by
    cases e
    exact .nil
  | _, .dat d :: r, _, .cons h t, e => by
    have e' : (dats r).map (d :: ·) = some _ := e
    cases q : dats r with
    | none =>
      rw [q] at e'
      cases e'
    | some z =>
      rw [q] at e'
      cases e'
      exact .cons h (dats_rel t q)
  | _, .ref t :: r, _, .cons h _, e => by cases e
  | _, .scr t :: r, _, .cons h _, e => by cases e
theorem rel_dats {K : PySem.W.Frag} {W : Wd} {n : Nat} : ∀ {v : List V} {ds : List PyData}, Dqs K W.S v ds → SvRs K W n v (ds.map Sv.dat)
  | _, _, .nil => .nil
  | _, _, .cons h r => .cons h (rel_dats r)
theorem dats_map (ds : List PyData) : dats (ds.map Sv.dat) = some ds := by
  induction ds with
  | nil => rfl
  | cons d ds ih =>
    show (dats (ds.map Sv.dat)).map (d :: ·) = _
    rw [ih]
    rfl
/-- the slots -/
structure Sls (K : PySem.W.Frag) (W : Wd) (n : Nat) (σ : L2.St) (ρ : Rho) : Prop where
  at_ : ∀ (i : Nat) (x : Sv), ρ[i]? = some (some x) → ∃ v, σ[i]? = some (some v) ∧ SvR K W n v x
  len : σ.length = ρ.length
theorem Sls.grow0 {K : PySem.W.Frag} {W W' : Wd} {n n' : Nat} {σ : L2.St} {ρ : Rho} (g : Gr0 W n W' n') (h : Sls K W n σ ρ) : Sls K W' n' σ ρ :=
  ⟨fun i x e => let ⟨v, a, b⟩ := h.at_ i x e; ⟨v, a, b.grow0 g⟩, h.len⟩
theorem Sls.set {K : PySem.W.Frag} {W : Wd} {n : Nat} {σ : L2.St} {ρ : Rho} {v : V} {x : Sv} (h : Sls K W n σ ρ) (i : Nat) (r : SvR K W n v x) : Sls K W n (σ.set i (some v)) (ρ.set i (some x)) := by
  refine ⟨fun j y e => ?_, by rw [List.length_set, List.length_set, h.len]⟩
  by_cases hj : i = j
  · subst hj
    have hi : i < ρ.length := by
      have := (List.getElem?_eq_some_iff.mp e).1
      simpa using this
    rw [List.getElem?_set_self hi] at e
    cases e
    exact ⟨v, List.getElem?_set_self (by rw [h.len]; exact hi), r⟩
  · rw [List.getElem?_set_ne hj] at e
    obtain ⟨u, a, b⟩ := h.at_ j y e
    exact ⟨u, by rw [List.getElem?_set_ne hj]; exact a, b⟩
/-! ### heaps that grow -/
theorem same_new {H : Hp} {p : Addr} {o : HO} (h : H p = none) : Same H (upd H p o) := fun b x e => by
  rw [upd_ne (ne_of_none e h)]
  exact e
theorem same_both {S H : Hp} {p : Addr} {o : HO} (h : Same S H) : Same (upd S p o) (upd H p o) := fun b x e => by
  by_cases hb : b = p
  · subst hb
    rw [upd_same] at e ⊢
    exact e
  · rw [upd_ne hb] at e ⊢
    exact h b x e
section
variable {K : PySem.W.Frag} {W : Wd} {H : Hp} {μ : Mu} {p : Addr} {o : HO}
theorem Rel.free (R : Rel K W H μ) (hp : H p = none) : W.S p = none := R.sub.free hp
theorem Rel.apart (R : Rel K W H μ) (hp : H p = none) {i : Nat} {xs : List Sv} (e : μ[i]? = some (.lst xs)) : W.η i ≠ p := by
  obtain ⟨vs, h, _⟩ := R.obj i _ e
  exact ne_of_none h hp
/-- a new object, not followed -/
theorem Rel.lay (R : Rel K W H μ) (hp : H p = none) : Rel K W (upd H p o) μ where
  sub := R.sub.trans (same_new hp)
  obj := fun i ob e => by
    cases ob with
    | gone => trivial
    | lst xs =>
      obtain ⟨vs, h, r⟩ := R.obj i _ e
      exact ⟨vs, same_new hp _ _ h, r⟩
  own := R.own
  inj := R.inj
/-- a new shared object -/
def Wd.put (W : Wd) (p : Addr) (o : HO) : Wd := ⟨W.η, upd W.S p o⟩
theorem Wd.put_grow {n : Nat} (h : W.S p = none) : Gr0 W n (W.put p o) n := ⟨Nat.le_refl _, same_new h, fun _ _ => rfl⟩
theorem Rel.share (R : Rel K W H μ) (hp : H p = none) : Rel K (W.put p o) (upd H p o) μ where
  sub := same_both R.sub
  obj := fun i ob e => by
    cases ob with
    | gone => trivial
    | lst xs =>
      obtain ⟨vs, h, r⟩ := R.obj i _ e
      exact ⟨vs, same_new hp _ _ h, SvRs.grow0 (Wd.put_grow (R.free hp)) r⟩
  own := fun i ob e ha => by
    cases ob with
    | gone => cases ha
    | lst xs =>
      show upd W.S p o (W.η i) = none
      rw [upd_ne (R.apart hp e)]
      exact R.own i _ e ha
  inj := R.inj
/-- a new tagged list -/
def Wd.tag (W : Wd) (n : Nat) (p : Addr) : Wd := ⟨fun i => if i = n then p else W.η i, W.S⟩
theorem Wd.tag_grow {n : Nat} : Gr0 W n (W.tag n p) (n + 1) := ⟨Nat.le_succ _, Same.refl _, fun i h => if_neg (Nat.ne_of_lt h)⟩
theorem Wd.tag_self {n : Nat} : (W.tag n p).η n = p := if_pos rfl
theorem Wd.tag_old {n i : Nat} (h : i < n) : (W.tag n p).η i = W.η i := if_neg (Nat.ne_of_lt h)
theorem Rel.alloc (R : Rel K W H μ) (hp : H p = none) {vs : List V} {xs : List Sv} (r : SvRs K W μ.length vs xs) : Rel K (W.tag μ.length p) (upd H p (.lst vs)) (μ ++ [.lst xs]) := by
  have hl : (μ ++ [MObj.lst xs]).length = μ.length + 1 := by simp
  have split : ∀ i ob, (μ ++ [MObj.lst xs])[i]? = some ob → (i < μ.length ∧ μ[i]? = some ob) ∨ (i = μ.length ∧ ob = .lst xs) := fun i ob e => by
    by_cases hi : i < μ.length
    · rw [List.getElem?_append_left hi] at e
      exact .inl ⟨hi, e⟩
    · have hi2 : i < (μ ++ [MObj.lst xs]).length := (List.getElem?_eq_some_iff.mp e).1
      have : i = μ.length := by omega
      subst this
      rw [List.getElem?_append_right (Nat.le_refl _)] at e
      simp at e
      exact .inr ⟨rfl, e.symm⟩
  have nold : ∀ i ob, μ[i]? = some ob → alive ob = true → W.η i ≠ p := fun i ob e ha => by
    cases ob with
    | gone => cases ha
    | lst ys => exact R.apart hp e
  refine ⟨R.sub.trans (same_new hp), fun i ob e => ?_, fun i ob e ha => ?_, fun i j o1 o2 e1 e2 a1 a2 q => ?_⟩
  · rw [hl]
    rcases split i ob e with ⟨hi, e⟩ | ⟨rfl, rfl⟩
    · rw [Wd.tag_old hi]
      cases ob with
      | gone => trivial
      | lst ys =>
        obtain ⟨us, h, q⟩ := R.obj i _ e
        exact ⟨us, same_new hp _ _ h, q.grow0 Wd.tag_grow⟩
    · rw [Wd.tag_self]
      exact ⟨vs, upd_same, r.grow0 Wd.tag_grow⟩
  · rcases split i ob e with ⟨hi, e⟩ | ⟨rfl, rfl⟩
    · rw [Wd.tag_old hi]
      exact R.own i ob e ha
    · rw [Wd.tag_self]
      exact R.free hp
  · rcases split i o1 e1 with ⟨hi, e1⟩ | ⟨rfl, rfl⟩
    · rcases split j o2 e2 with ⟨hj, e2⟩ | ⟨rfl, rfl⟩
      · rw [Wd.tag_old hi, Wd.tag_old hj] at q
        exact R.inj i j o1 o2 e1 e2 a1 a2 q
      · rw [Wd.tag_old hi, Wd.tag_self] at q
        exact absurd q (nold i o1 e1 a1)
    · rcases split j o2 e2 with ⟨hj, e2⟩ | ⟨rfl, rfl⟩
      · rw [Wd.tag_old hj, Wd.tag_self] at q
        exact absurd q.symm (nold j o2 e2 a2)
      · rfl
theorem at_set {α : Type} {l : List α} {t i : Nat} {x y : α} (h : (l.set t x)[i]? = some y) : (i = t ∧ y = x) ∨ (i ≠ t ∧ l[i]? = some y) := by
  by_cases hi : t = i
  · subst hi
    have hl : t < l.length := by
      have := (List.getElem?_eq_some_iff.mp h).1
      simpa using this
    rw [List.getElem?_set_self hl] at h
    cases h
    exact .inl ⟨rfl, rfl⟩
  · rw [List.getElem?_set_ne hi] at h
    exact .inr ⟨fun z => hi z.symm, h⟩
/-- a tagged list is written -/
theorem Rel.write (R : Rel K W H μ) {t : Nat} {ys : List Sv} (e : μ[t]? = some (.lst ys)) {vs : List V} {xs : List Sv} (r : SvRs K W μ.length vs xs) : Rel K W (upd H (W.η t) (.lst vs)) (μ.set t (.lst xs)) := by
  have hlen : (μ.set t (MObj.lst xs)).length = μ.length := List.length_set ..
  have hown := R.own t _ e rfl
  have ne : ∀ i ob, i ≠ t → μ[i]? = some ob → alive ob = true → W.η i ≠ W.η t := fun i ob hi q ha z => hi (R.inj i t ob _ q e ha rfl z)
  refine ⟨fun b x q => ?_, fun i ob q => ?_, fun i ob q ha => ?_, fun i j o1 o2 q1 q2 a1 a2 z => ?_⟩
  · have hb : b ≠ W.η t := fun z => by
      rw [z, hown] at q
      cases q
    rw [upd_ne hb]
    exact R.sub b x q
  · rw [hlen]
    rcases at_set q with ⟨rfl, rfl⟩ | ⟨hi, q⟩
    · exact ⟨vs, upd_same, r⟩
    · cases ob with
      | gone => trivial
      | lst zs =>
        obtain ⟨us, h, z⟩ := R.obj i _ q
        exact ⟨us, by rw [upd_ne (ne i _ hi q rfl)]; exact h, z⟩
  · rcases at_set q with ⟨rfl, rfl⟩ | ⟨hi, q⟩
    · exact hown
    · exact R.own i ob q ha
  · rcases at_set q1 with ⟨h1, h2⟩ | ⟨hi, p1⟩
    · rcases at_set q2 with ⟨h3, h4⟩ | ⟨hj, p2⟩
      · rw [h1, h3]
      · exact absurd (h1 ▸ z).symm (ne j o2 hj p2 a2)
    · rcases at_set q2 with ⟨h3, h4⟩ | ⟨hj, p2⟩
      · exact absurd (h3 ▸ z) (ne i o1 hi p1 a1)
      · exact R.inj i j o1 o2 p1 p2 a1 a2 z
/-- a tagged list becomes data -/
theorem Rel.freeze (R : Rel K W H μ) {t : Nat} {ys : List Sv} {ds : List PyData} (e : μ[t]? = some (.lst ys)) (hd : dats ys = some ds) :
    ∃ W', Gr0 W μ.length W' μ.length ∧ Rel K W' H (μ.set t .gone) ∧ Dq K W'.S (.ref (W.η t)) (.list ds) ∧ W'.η = W.η ∧ ∀ a, a ≠ W.η t → W'.S a = W.S a := by
  obtain ⟨vs, h, r⟩ := R.obj t _ e
  have hown := R.own t _ e rfl
  have g : Gr0 W μ.length (W.put (W.η t) (.lst vs)) μ.length := Wd.put_grow hown
  refine ⟨W.put (W.η t) (.lst vs), g, ⟨fun b x q => ?_, fun i ob q => ?_, fun i ob q ha => ?_, fun i j o1 o2 q1 q2 a1 a2 z => ?_⟩, .lst upd_same (Dqs.mono g.same (dats_rel r hd)), rfl, fun a ha => upd_ne ha⟩
  · by_cases hb : b = W.η t
    · subst hb
      have q' : upd W.S (W.η t) (.lst vs) (W.η t) = some x := q
      rw [upd_same] at q'
      cases q'
      exact h
    · have q' : upd W.S (W.η t) (.lst vs) b = some x := q
      rw [upd_ne hb] at q'
      exact R.sub b x q'
  · rw [List.length_set]
    rcases at_set q with ⟨rfl, rfl⟩ | ⟨hi, q⟩
    · trivial
    · cases ob with
      | gone => trivial
      | lst zs =>
        obtain ⟨us, h, z⟩ := R.obj i _ q
        exact ⟨us, h, z.grow0 g⟩
  · rcases at_set q with ⟨rfl, rfl⟩ | ⟨hi, q⟩
    · cases ha
    · show upd W.S (W.η t) (.lst vs) (W.η i) = none
      rw [upd_ne fun z => hi (R.inj i t ob _ q e ha rfl z)]
      exact R.own i ob q ha
  · rcases at_set q1 with ⟨rfl, rfl⟩ | ⟨hi, q1⟩
    · cases a1
    · rcases at_set q2 with ⟨rfl, rfl⟩ | ⟨hj, q2⟩
      · cases a2
      · exact R.inj i j o1 o2 q1 q2 a1 a2 z
end

/-! ### a step: what is shared stays, what no tag owns stays -/
def Loose (W : Wd) (μ : Mu) (a : Addr) : Prop := W.S a = none ∧ ∀ (t : Nat) (ob : MObj), μ[t]? = some ob → alive ob = true → W.η t ≠ a
structure Grow (W : Wd) (H : Hp) (μ : Mu) (W' : Wd) (H' : Hp) (μ' : Mu) : Prop where
  gr : Gr0 W μ.length W' μ'.length
  frm : ∀ a o, H a = some o → Loose W μ a → H' a = some o ∧ Loose W' μ' a
theorem Grow.same {W W' : Wd} {H H' : Hp} {μ μ' : Mu} (g : Grow W H μ W' H' μ') : Same W.S W'.S := g.gr.same
theorem Grow.at_ {W W' : Wd} {H H' : Hp} {μ μ' : Mu} (g : Grow W H μ W' H' μ') : ∀ i, i < μ.length → W'.η i = W.η i := g.gr.at_
theorem Grow.refl (W : Wd) (H : Hp) (μ : Mu) : Grow W H μ W H μ := ⟨Gr0.refl _ _, fun _ _ h l => ⟨h, l⟩⟩
theorem Grow.trans {W W1 W2 : Wd} {H H1 H2 : Hp} {μ μ1 μ2 : Mu} (a : Grow W H μ W1 H1 μ1) (b : Grow W1 H1 μ1 W2 H2 μ2) : Grow W H μ W2 H2 μ2 :=
  ⟨a.gr.trans b.gr, fun c o h l => let ⟨h1, l1⟩ := a.frm c o h l; b.frm c o h1 l1⟩
theorem SvR.grow {K : PySem.W.Frag} {W W' : Wd} {H H' : Hp} {μ μ' : Mu} {v : V} {x : Sv} (g : Grow W H μ W' H' μ') (h : SvR K W μ.length v x) : SvR K W' μ'.length v x := h.grow0 g.gr
theorem SvRs.grow {K : PySem.W.Frag} {W W' : Wd} {H H' : Hp} {μ μ' : Mu} {v : List V} {x : List Sv} (g : Grow W H μ W' H' μ') (h : SvRs K W μ.length v x) : SvRs K W' μ'.length v x := h.grow0 g.gr
theorem Sls.grow {K : PySem.W.Frag} {W W' : Wd} {H H' : Hp} {μ μ' : Mu} {σ : L2.St} {ρ : Rho} (g : Grow W H μ W' H' μ') (h : Sls K W μ.length σ ρ) : Sls K W' μ'.length σ ρ := h.grow0 g.gr
section
variable {K : PySem.W.Frag} {W : Wd} {H : Hp} {μ : Mu} {p : Addr} {o : HO}
theorem grow_share (R : Rel K W H μ) (hp : H p = none) : Grow W H μ (W.put p o) (upd H p o) μ := ⟨Wd.put_grow (R.free hp), fun a x h l => ⟨same_new hp a x h, by show upd W.S p o a = none; rw [upd_ne (ne_of_none h hp)]; exact l.1, l.2⟩⟩
theorem grow_alloc (R : Rel K W H μ) (hp : H p = none) {xs : List Sv} {ob : HO} : Grow W H μ (W.tag μ.length p) (upd H p ob) (μ ++ [.lst xs]) := by
  have hl : (μ ++ [MObj.lst xs]).length = μ.length + 1 := by simp
  refine ⟨by rw [hl]; exact Wd.tag_grow, fun a x h l => ⟨same_new hp a x h, l.1, fun t u e ha => ?_⟩⟩
  by_cases hi : t < μ.length
  · rw [List.getElem?_append_left hi] at e
    rw [Wd.tag_old hi]
    exact l.2 t u e ha
  · have hi2 : t < (μ ++ [MObj.lst xs]).length := (List.getElem?_eq_some_iff.mp e).1
    have : t = μ.length := by omega
    subst this
    rw [Wd.tag_self]
    exact (ne_of_none h hp).symm
theorem grow_write {t : Nat} {ys xs : List Sv} {ob : HO} (e : μ[t]? = some (.lst ys)) : Grow W H μ W (upd H (W.η t) ob) (μ.set t (.lst xs)) := by
  refine ⟨by rw [List.length_set]; exact Gr0.refl _ _, fun a x h l => ⟨?_, l.1, fun i u q ha => ?_⟩⟩
  · rw [upd_ne fun z => l.2 t _ e rfl z.symm]
    exact h
  · rcases at_set q with ⟨h1, h2⟩ | ⟨hi, q⟩
    · rw [h1]
      exact l.2 t _ e rfl
    · exact l.2 i u q ha
theorem grow_freeze {t : Nat} {ys : List Sv} {W' : Wd} (e : μ[t]? = some (.lst ys)) (g : Gr0 W μ.length W' μ.length) (he : W'.η = W.η) (hs : ∀ a, a ≠ W.η t → W'.S a = W.S a) : Grow W H μ W' H (μ.set t .gone) := by
  refine ⟨by rw [List.length_set]; exact g, fun a x h l => ⟨h, by rw [hs a fun z => l.2 t _ e rfl z.symm]; exact l.1, fun i u q ha => ?_⟩⟩
  rw [he]
  rcases at_set q with ⟨h1, h2⟩ | ⟨hi, q⟩
  · rw [h1]
    exact l.2 t _ e rfl
  · exact l.2 i u q ha
/-- an object that no tag owns and nobody shares, out of sight -/
def hideA (H : Hp) (D : Addr) : Hp := fun a => if a = D then none else H a
theorem hide_self {H : Hp} {D : Addr} : hideA H D D = none := if_pos rfl
theorem hide_ne {H : Hp} {D a : Addr} (h : a ≠ D) : hideA H D a = H a := if_neg h
theorem hide_upd {H : Hp} {D : Addr} (h : H D = some o) : upd (hideA H D) D o = H := by
  funext a
  by_cases ha : a = D
  · subst ha
    rw [upd_same, h]
  · rw [upd_ne ha, hide_ne ha]
theorem Rel.hide (R : Rel K W H μ) {D : Addr} (l : Loose W μ D) : Rel K W (hideA H D) μ where
  sub := fun a x e => by
    rw [hide_ne fun z => by rw [z, l.1] at e; cases e]
    exact R.sub a x e
  obj := fun i ob e => by
    cases ob with
    | gone => trivial
    | lst xs =>
      obtain ⟨vs, h, r⟩ := R.obj i _ e
      exact ⟨vs, by rw [hide_ne (l.2 i _ e rfl)]; exact h, r⟩
  own := R.own
  inj := R.inj
/-- .. is written -/
theorem Rel.loose (R : Rel K W H μ) {D : Addr} (l : Loose W μ D) : Rel K W (upd H D o) μ where
  sub := fun a x e => by
    rw [upd_ne fun z => by rw [z, l.1] at e; cases e]
    exact R.sub a x e
  obj := fun i ob e => by
    cases ob with
    | gone => trivial
    | lst xs =>
      obtain ⟨vs, h, r⟩ := R.obj i _ e
      exact ⟨vs, by rw [upd_ne (l.2 i _ e rfl)]; exact h, r⟩
  own := R.own
  inj := R.inj
theorem Grow.out {W' : Wd} {H' H2 : Hp} {μ' : Mu} {D : Addr} (g : Grow W H μ W' H' μ') (hD : H D = none) (h2 : ∀ a, a ≠ D → H2 a = H' a) : Grow W H μ W' H2 μ' :=
  ⟨g.gr, fun a x h l => let ⟨h1, l1⟩ := g.frm a x h l; ⟨by rw [h2 a (ne_of_none h hD)]; exact h1, l1⟩⟩
theorem Rel.fresh (R : Rel K W H μ) (hp : H p = none) : Loose W μ p := ⟨R.free hp, fun t ob e ha => by
  cases ob with
  | gone => cases ha
  | lst xs => exact R.apart hp e⟩
end
end Pf

namespace Pf
open PySem PySem.Spec PyProof.Rows L2

/-! ### the monad -/
structure Exc where
  C : Str
  fld : Option (Str × Sv)
inductive Res (α : Type) where
  | ok (a : α) (μ : Mu)
  | ex (c : Exc) (μ : Mu)
def M (α : Type) : Type := Mu → Option (Res α)
def M.ret {α : Type} (a : α) : M α := fun μ => some (.ok a μ)
def M.fail {α : Type} : M α := fun _ => none
def M.thr {α : Type} (c : Exc) : M α := fun μ => some (.ex c μ)
def M.bind {α β : Type} (m : M α) (k : α → M β) : M β := fun μ =>
  match m μ with
  | some (.ok a μ') => k a μ'
  | some (.ex c μ') => some (.ex c μ')
  | none => none
instance : Monad M where
  pure := M.ret
  bind := M.bind
theorem bind_def {α β : Type} (m : M α) (k : α → M β) : (m >>= k) = M.bind m k := rfl
theorem pure_def {α : Type} (a : α) : (pure a : M α) = M.ret a := rfl
theorem bind_ok {α β : Type} {m : M α} {k : α → M β} {μ μ' : Mu} {a : α} (h : m μ = some (.ok a μ')) : M.bind m k μ = k a μ' := by
  unfold M.bind
  rw [h]
theorem bind_ex {α β : Type} {m : M α} {k : α → M β} {μ μ' : Mu} {c : Exc} (h : m μ = some (.ex c μ')) : M.bind m k μ = some (.ex c μ') := by
  unfold M.bind
  rw [h]
theorem bind_some {α β : Type} {m : M α} {k : α → M β} {μ : Mu} {r : Res β} (h : M.bind m k μ = some r) :
    (∃ a μ1, m μ = some (.ok a μ1) ∧ k a μ1 = some r) ∨ ∃ c μ1, m μ = some (.ex c μ1) ∧ r = .ex c μ1 := by
  unfold M.bind at h
  cases e : m μ with
  | none =>
    rw [e] at h
    cases h
  | some x =>
    rw [e] at h
    cases x with
    | ok a μ1 => exact .inl ⟨a, μ1, rfl, h⟩
    | ex c μ1 =>
      cases h
      exact .inr ⟨c, μ1, rfl, rfl⟩

/-! ### what is wanted -/
def ExcR (K : PySem.W.Frag) (W : Wd) (n : Nat) (c : Exc) (cls : Value) (d : Option Addr) (H : Hp) : Prop :=
  (∃ C : Addr, PySem.W.nsIn K mainGlobals c.C = some (some (.ref C)) ∧ cls = .ref C) ∧ match c.fld with
    | none => d = none
    | some (f, s) => ∃ dd v, d = some dd ∧ H dd = some (.xd [(f, v)]) ∧ SvR K W n v s
def Ko {α : Type} (K : PySem.W.Frag) (E : XK) (W : Wd) (H : Hp) (μ : Mu) (r : Res α) (P : Wd → Hp → α → Mu → Prop) : Prop :=
  match r with
  | .ok a μ' => ∀ W' H', Grow W H μ W' H' μ' → Rel K W' H' μ' → P W' H' a μ'
  | .ex c μ' => ∀ W' H' cls d, Grow W H μ W' H' μ' → Rel K W' H' μ' → ExcR K W' μ'.length c cls d H' → E cls d H'
theorem Ko.later {α : Type} {K : PySem.W.Frag} {E : XK} {W W1 : Wd} {H H1 : Hp} {μ μ1 : Mu} {r : Res α} {P : Wd → Hp → α → Mu → Prop} (g : Grow W H μ W1 H1 μ1) (h : Ko K E W H μ r P) : Ko K E W1 H1 μ1 r P := by
  cases r with
  | ok a μ' => exact fun W' H' g' R => h W' H' (g.trans g') R
  | ex c μ' => exact fun W' H' cls d g' R x => h W' H' cls d (g.trans g') R x
structure Here (K : PySem.W.Frag) (W : Wd) (σ : L2.St) (H : Hp) (ρ : Rho) (μ : Mu) : Prop where
  rel : Rel K W H μ
  sl : Sls K W μ.length σ ρ
theorem Here.next {K : PySem.W.Frag} {W W' : Wd} {σ : L2.St} {H H' : Hp} {ρ : Rho} {μ μ' : Mu} (h : Here K W σ H ρ μ) (g : Grow W H μ W' H' μ') (R : Rel K W' H' μ') : Here K W' σ H' ρ μ' := ⟨R, h.sl.grow g⟩
/-- the end of an expression -/
abbrev KoV (K : PySem.W.Frag) (E : XK) (W : Wd) (H : Hp) (μ : Mu) (r : Res Sv) (Q : VK) : Prop := Ko K E W H μ r fun W' H' s μ' => ∀ v, SvR K W' μ'.length v s → Q v H'
def tX (K : PySem.W.Frag) (E : XK) (F : Rho → M Sv) : TE := fun σ H Q => ∃ W ρ μ r, Here K W σ H ρ μ ∧ F ρ μ = some r ∧ KoV K E W H μ r Q
abbrev PX (X : Cx) (E : XK) (e : Expr) (F : Rho → M Sv) : Prop := PE X e (tX X.K E F)
def tT (K : PySem.W.Frag) (E : XK) (F : Rho → M Bool) : TT := fun σ H Q => ∃ W ρ μ r, Here K W σ H ρ μ ∧ F ρ μ = some r ∧ Ko K E W H μ r fun W' H' b μ' => Q b H'
abbrev PTX (X : Cx) (E : XK) (e : Expr) (F : Rho → M Bool) : Prop := PT X e (tT X.K E F)
def tAr (K : PySem.W.Frag) (E : XK) (F : Rho → M (List Sv)) : TA := fun σ H Q => ∃ W ρ μ r, Here K W σ H ρ μ ∧ F ρ μ = some r ∧ Ko K E W H μ r fun W' H' ss μ' => ∀ vs, SvRs K W' μ'.length vs ss → Q vs H'
abbrev PAX (X : Cx) (E : XK) (es : List Expr) (F : Rho → M (List Sv)) : Prop := PA X es (tAr X.K E F)
theorem pe_weak {X : Cx} {e : Expr} {t t' : TE} (h : PE X e t) (w : ∀ σ H Q, t' σ H Q → t σ H Q) : PE X e t' := ⟨fun pins s σ H Q I q => h.run pins s σ H Q I (w _ _ _ q)⟩
theorem pt_weak {X : Cx} {e : Expr} {t t' : TT} (h : PT X e t) (w : ∀ σ H Q, t' σ H Q → t σ H Q) : PT X e t' := ⟨fun pins s σ H Q I q => h.run pins s σ H Q I (w _ _ _ q)⟩
theorem pa_weak {X : Cx} {e : List Expr} {t t' : TA} (h : PA X e t) (w : ∀ σ H Q, t' σ H Q → t σ H Q) : PA X e t' := ⟨fun pos pins s σ H Q I q => h.run pos pins s σ H Q I (w _ _ _ q)⟩
theorem ps_weak {X : Cx} {e : Stmt} {t t' : TS} (h : PS X e t) (w : ∀ D σ H, t' D σ H → t D σ H) : PS X e t' := ⟨fun pins s σ H D I q => h.run pins s σ H D I (w _ _ _ q)⟩
theorem pss_weak {X : Cx} {e : List Stmt} {t t' : TS} (h : PSs X e t) (w : ∀ D σ H, t' D σ H → t D σ H) : PSs X e t' := ⟨fun pins s σ H D I q => h.run pins s σ H D I (w _ _ _ q)⟩

section
variable {K : PySem.W.Frag} {E : XK} {W : Wd} {σ : L2.St} {H : Hp} {ρ : Rho} {μ : Mu} {α : Type}
theorem tX_bind {F : Rho → M Sv} {k : Sv → M α} {r : Res α} {P : Wd → Hp → α → Mu → Prop} {Q : VK} (h : Here K W σ H ρ μ) (e : M.bind (F ρ) k μ = some r) (q : Ko K E W H μ r P)
    (step : ∀ v s W1 H1 μ1, Grow W H μ W1 H1 μ1 → Here K W1 σ H1 ρ μ1 → SvR K W1 μ1.length v s → k s μ1 = some r → Ko K E W1 H1 μ1 r P → Q v H1) : tX K E F σ H Q := by
  rcases bind_some e with ⟨a, μ1, e1, e2⟩ | ⟨c, μ1, e1, rfl⟩
  · exact ⟨W, ρ, μ, _, h, e1, fun W1 H1 g R v hv => step v a W1 H1 μ1 g (h.next g R) hv e2 (q.later g)⟩
  · exact ⟨W, ρ, μ, _, h, e1, q⟩
theorem tT_bind {F : Rho → M Bool} {k : Bool → M α} {r : Res α} {P : Wd → Hp → α → Mu → Prop} {Q : Bool → Hp → Prop} (h : Here K W σ H ρ μ) (e : M.bind (F ρ) k μ = some r) (q : Ko K E W H μ r P)
    (step : ∀ b W1 H1 μ1, Grow W H μ W1 H1 μ1 → Here K W1 σ H1 ρ μ1 → k b μ1 = some r → Ko K E W1 H1 μ1 r P → Q b H1) : tT K E F σ H Q := by
  rcases bind_some e with ⟨a, μ1, e1, e2⟩ | ⟨c, μ1, e1, rfl⟩
  · exact ⟨W, ρ, μ, _, h, e1, fun W1 H1 g R => step a W1 H1 μ1 g (h.next g R) e2 (q.later g)⟩
  · exact ⟨W, ρ, μ, _, h, e1, q⟩
theorem tAr_bind {F : Rho → M (List Sv)} {k : List Sv → M α} {r : Res α} {P : Wd → Hp → α → Mu → Prop} {Q : List V → Hp → Prop} (h : Here K W σ H ρ μ) (e : M.bind (F ρ) k μ = some r) (q : Ko K E W H μ r P)
    (step : ∀ vs ss W1 H1 μ1, Grow W H μ W1 H1 μ1 → Here K W1 σ H1 ρ μ1 → SvRs K W1 μ1.length vs ss → k ss μ1 = some r → Ko K E W1 H1 μ1 r P → Q vs H1) : tAr K E F σ H Q := by
  rcases bind_some e with ⟨a, μ1, e1, e2⟩ | ⟨c, μ1, e1, rfl⟩
  · exact ⟨W, ρ, μ, _, h, e1, fun W1 H1 g R v hv => step v a W1 H1 μ1 g (h.next g R) hv e2 (q.later g)⟩
  · exact ⟨W, ρ, μ, _, h, e1, q⟩
end

/-! ### names, constants -/
def slot (i : Nat) (ρ : Rho) : M Sv := match ρ[i]? with
  | some (some s) => M.ret s
  | _ => M.fail
theorem slot_some {i : Nat} {ρ : Rho} {μ : Mu} {r : Res Sv} (h : slot i ρ μ = some r) : ∃ s, ρ[i]? = some (some s) ∧ r = .ok s μ := by
  unfold slot at h
  cases e : ρ[i]? with
  | none =>
    rw [e] at h
    cases h
  | some o =>
    rw [e] at h
    cases o with
    | none => cases h
    | some s =>
      cases h
      exact ⟨s, rfl, rfl⟩
def con (d : PyData) (ρ : Rho) : M Sv := M.ret (.dat d)
section
variable {X : Cx} {E : XK}
theorem x_name (i : Nat) {x : Str} {pos : Pos} (hN : X.N[i]? = some x := by rfl) (hv : Vis X.env.scope x := by first | exact Or.inl rfl | exact Or.inr (Or.inl rfl) | exact Or.inr (Or.inr rfl)) (hd : (x == ("__debug__" : Str)) = false := by decide)
    (hcd : (x == ("__classdict__" : Str)) = false := by decide) : PX X E (.Name x pos) (slot i) := pe_weak (pe_var hN hv hd hcd) fun σ H Q ⟨W, ρ, μ, r, h, e, q⟩ => by
  obtain ⟨s, hs, rfl⟩ := slot_some e
  obtain ⟨v, h1, h2⟩ := h.sl.at_ i s hs
  exact ⟨v, h1, q _ _ (Grow.refl _ _ _) h.rel _ h2⟩
theorem x_con {e : Expr} {v : V} {d : PyData} (h : PE X e (tC v)) (hd : ∀ H, Dq X.K H v d) : PX X E e (con d) := pe_weak h fun σ H Q ⟨W, ρ, μ, r, h, e, q⟩ => by
  cases e
  exact q _ _ (Grow.refl _ _ _) h.rel _ (hd _)
theorem x_int {i j pos} : PX X E (.Constant (.int i) j pos) (con (.int i)) := x_con pe_int fun _ => .int i
theorem x_bl {b j pos} : PX X E (.Constant (.bool b) j pos) (con (.bool b)) := x_con pe_bl fun _ => .bl b
theorem x_non {j pos} : PX X E (.Constant .none j pos) (con .none) := x_con pe_non fun _ => .non
theorem x_str {x j pos} : PX X E (.Constant (.str x) j pos) (con (.str x)) := x_con pe_str fun _ => .str x
theorem x_gint {x : Str} {i : Int} {u : Value} {pos : Pos} (hg : Gl X x) (hm : X.mg x = some u) (r : RelV (.int i) u) (hd : (x == ("__debug__" : Str)) = false := by decide) : PX X E (.Name x pos) (con (.int i)) := x_con (pe_glob hg hm r hd) fun _ => .int i

/-! ### operators by values -/
def rO2 (K : PySem.W.Frag) (E : XK) (op : Sv → Sv → M Sv) : R2 := fun x y H Q => ∃ W μ a b r, Rel K W H μ ∧ SvR K W μ.length x a ∧ SvR K W μ.length y b ∧ op a b μ = some r ∧ KoV K E W H μ r Q
theorem opr_weak {f : Value → Value → Sem Value} {r r' : R2} (h : OpR X f r) (w : ∀ x y H Q, r' x y H Q → r x y H Q) : OpR X f r' := fun pins s σ H x y v u Q I rx ry q => h pins s σ H x y v u Q I rx ry (w _ _ _ _ q)
theorem ixr_weak {r r' : R2} (h : IxR X r) (w : ∀ x y H Q, r' x y H Q → r x y H Q) : IxR X r' := fun a b pins s σ H x y v u Q I rx ry q => h a b pins s σ H x y v u Q I rx ry (w _ _ _ _ q)
def bin (op : Sv → Sv → M Sv) (Fa Fb : Rho → M Sv) (ρ : Rho) : M Sv := (Fa ρ).bind fun a => (Fb ρ).bind fun b => op a b
theorem bin_ent {K : PySem.W.Frag} {op : Sv → Sv → M Sv} {Fa Fb : Rho → M Sv} {σ : L2.St} {H : Hp} {Q : VK} (h : tX K E (bin op Fa Fb) σ H Q) : tOp (rO2 K E op) (tX K E Fa) (tX K E Fb) σ H Q := by
  obtain ⟨W, ρ, μ, r, h, e, q⟩ := h
  refine tX_bind h e q fun v a W1 H1 μ1 g1 h1 ra e1 q1 => tX_bind h1 e1 q1 fun u b W2 H2 μ2 g2 h2 rb e2 q2 => ?_
  exact ⟨W2, μ2, a, b, r, h2.rel, ra.grow g2, rb, e2, q2⟩
variable {a b c : Expr} {Fa Fb Fc : Rho → M Sv} {op op' : Sv → Sv → M Sv} {pos : Pos}
theorem x_bin {o : Operator} (ho : OpR X (binaryOp o) (rO2 X.K E op)) (ha : PX X E a Fa) (hb : PX X E b Fb) : PX X E (.BinOp a o b pos) (bin op Fa Fb) := pe_weak (pe_op ho ha hb) fun _ _ _ h => bin_ent h
theorem x_cmp {o : CmpOp} (ho : OpR X (compareOp o) (rO2 X.K E op)) (ha : PX X E a Fa) (hb : PX X E b Fb) (hm : behindInMarks o b = false := by first | exact nobehind _ (by decide) (by decide) | rfl) : PX X E (.Compare a [o] [b] pos) (bin op Fa Fb) :=
  pe_weak (pe_cmpR ho ha hb hm) fun _ _ _ h => bin_ent h
theorem x_ix (ho : IxR X (rO2 X.K E op)) (ha : PX X E a Fa) (hb : PX X E b Fb) (hs : PlainIx b := by intro _ _; rfl) : PX X E (.Subscript a b pos) (bin op Fa Fb) := pe_weak (pe_ix ho ha hb hs) fun _ _ _ h => bin_ent h
/-- a bool out of a value that is one -/
def asB (s : Sv) : M Bool := match s with
  | .dat (.bool b) => M.ret b
  | _ => M.fail
theorem asB_some {s : Sv} {μ : Mu} {r : Res Bool} (h : asB s μ = some r) : ∃ b, s = .dat (.bool b) ∧ r = .ok b μ := by
  unfold asB at h
  split at h
  · cases h
    exact ⟨_, rfl, rfl⟩
  · cases h
def chain (op op' : Sv → Sv → M Sv) (Fa Fb Fc : Rho → M Sv) (ρ : Rho) : M Sv := (Fa ρ).bind fun a => (Fb ρ).bind fun b => (op a b).bind fun z => (asB z).bind fun k => if k = true then (Fc ρ).bind fun c => op' b c else M.ret (.dat (.bool false))
theorem ob_bind {α : Type} {K : PySem.W.Frag} {W : Wd} {μ : Mu} {H : Hp} {x y : V} {a b : Sv} {k : Sv → M α} {r : Res α} {P : Wd → Hp → α → Mu → Prop} {Q : VK} (R : Rel K W H μ) (ra : SvR K W μ.length x a) (rb : SvR K W μ.length y b)
    (e : M.bind (op a b) k μ = some r) (q : Ko K E W H μ r P)
    (step : ∀ v s W1 H1 μ1, Grow W H μ W1 H1 μ1 → Rel K W1 H1 μ1 → SvR K W1 μ1.length v s → k s μ1 = some r → Ko K E W1 H1 μ1 r P → Q v H1) : rO2 K E op x y H Q := by
  rcases bind_some e with ⟨z, μ1, e1, e2⟩ | ⟨c, μ1, e1, rfl⟩
  · exact ⟨W, μ, a, b, _, R, ra, rb, e1, fun W1 H1 g R1 v hv => step v z W1 H1 μ1 g R1 hv e2 (q.later g)⟩
  · exact ⟨W, μ, a, b, _, R, ra, rb, e1, q⟩
theorem chain_ent {K : PySem.W.Frag} {σ : L2.St} {H : Hp} {Q : VK} (h : tX K E (chain op op' Fa Fb Fc) σ H Q) : tChain (rO2 K E op) (rO2 K E op') (tX K E Fa) (tX K E Fb) (tX K E Fc) σ H Q := by
  obtain ⟨W, ρ, μ, r, h, e, q⟩ := h
  refine tX_bind h e q fun v a W1 H1 μ1 g1 h1 ra e1 q1 => tX_bind h1 e1 q1 fun u b W2 H2 μ2 g2 h2 rb e2 q2 => ?_
  refine ob_bind h2.rel (ra.grow g2) rb e2 q2 fun z s W3 H3 μ3 g3 R3 rz e3 q3 => ?_
  rcases bind_some e3 with ⟨k, μ4, e4, e5⟩ | ⟨c, μ4, e4, rfl⟩
  · obtain ⟨k', rfl, ek⟩ := asB_some e4
    cases ek
    cases rz
    refine ⟨k, rfl, ?_⟩
    cases k with
    | false =>
      rw [if_neg Bool.false_ne_true]
      rw [if_neg Bool.false_ne_true] at e5
      cases e5
      exact q3 _ _ (Grow.refl _ _ _) R3 _ (.bl false)
    | true =>
      rw [if_pos rfl]
      rw [if_pos rfl] at e5
      exact tX_bind (h2.next g3 R3) e5 q3 fun w c W5 H5 μ5 g5 h5 rc e6 q6 => ⟨W5, μ5, b, c, r, h5.rel, (rb.grow g3).grow g5, rc, e6, q6⟩
  · obtain ⟨_, _, z⟩ := asB_some e4
    cases z
theorem x_chain {o o' : CmpOp} (ho : OpR X (compareOp o) (rO2 X.K E op)) (ho' : OpR X (compareOp o') (rO2 X.K E op')) (ha : PX X E a Fa) (hb : PX X E b Fb) (hc : PX X E c Fc)
    (hm : lastMarks [o, o'] [b, c] = false := by with_unfolding_all rfl) : PX X E (.Compare a [o, o'] [b, c] pos) (chain op op' Fa Fb Fc) := pe_weak (pe_chain ho ho' ha hb hc hm) fun _ _ _ h => chain_ent h

/-! ### and, or, not, if: values that are bools -/
def andV (Fa Fb : Rho → M Sv) (ρ : Rho) : M Sv := (Fa ρ).bind fun a => (asB a).bind fun k => if k = true then Fb ρ else M.ret (.dat (.bool false))
def orV (Fa Fb : Rho → M Sv) (ρ : Rho) : M Sv := (Fa ρ).bind fun a => (asB a).bind fun k => if k = true then M.ret (.dat (.bool true)) else Fb ρ
def notV (Fa : Rho → M Sv) (ρ : Rho) : M Sv := (Fa ρ).bind fun a => (asB a).bind fun k => M.ret (.dat (.bool (!k)))
theorem asB_bind {α : Type} {s : Sv} {k : Bool → M α} {μ : Mu} {r : Res α} (h : M.bind (asB s) k μ = some r) : ∃ b, s = .dat (.bool b) ∧ k b μ = some r := by
  rcases bind_some h with ⟨b, μ4, e4, e5⟩ | ⟨c, μ4, e4, rfl⟩
  · obtain ⟨k', rfl, ek⟩ := asB_some e4
    cases ek
    exact ⟨_, rfl, e5⟩
  · obtain ⟨_, _, z⟩ := asB_some e4
    cases z
theorem x_one {o} (h : PX X E a Fa) : PX X E (.BoolOp o [a] pos) Fa := pe_one h
theorem x_and {rest : List Expr} (ha : PX X E a Fa) (hb : PX X E (.BoolOp .And (b :: rest) pos) Fb) : PX X E (.BoolOp .And (a :: b :: rest) pos) (andV Fa Fb) := pe_weak (pe_and ha hb) fun σ H Q ⟨W, ρ, μ, r, h, e, q⟩ => by
  refine tX_bind h e q fun v a W1 H1 μ1 g1 h1 ra e1 q1 => ?_
  obtain ⟨k, rfl, e2⟩ := asB_bind e1
  cases ra
  refine ⟨k, rfl, ?_⟩
  cases k with
  | false =>
    rw [if_neg Bool.false_ne_true] at e2 ⊢
    cases e2
    exact q1 _ _ (Grow.refl _ _ _) h1.rel _ (.bl false)
  | true =>
    rw [if_pos rfl] at e2 ⊢
    exact ⟨W1, ρ, μ1, r, h1, e2, q1⟩
theorem x_or {rest : List Expr} (ha : PX X E a Fa) (hb : PX X E (.BoolOp .Or (b :: rest) pos) Fb) : PX X E (.BoolOp .Or (a :: b :: rest) pos) (orV Fa Fb) := pe_weak (pe_or ha hb) fun σ H Q ⟨W, ρ, μ, r, h, e, q⟩ => by
  refine tX_bind h e q fun v a W1 H1 μ1 g1 h1 ra e1 q1 => ?_
  obtain ⟨k, rfl, e2⟩ := asB_bind e1
  cases ra
  refine ⟨k, rfl, ?_⟩
  cases k with
  | true =>
    rw [if_pos rfl] at e2 ⊢
    cases e2
    exact q1 _ _ (Grow.refl _ _ _) h1.rel _ (.bl true)
  | false =>
    rw [if_neg Bool.false_ne_true] at e2 ⊢
    exact ⟨W1, ρ, μ1, r, h1, e2, q1⟩
theorem x_not (ha : PX X E a Fa) : PX X E (.UnaryOp .Not a pos) (notV Fa) := pe_weak (pe_not ha) fun σ H Q ⟨W, ρ, μ, r, h, e, q⟩ => by
  refine tX_bind h e q fun v a W1 H1 μ1 g1 h1 ra e1 q1 => ?_
  obtain ⟨k, rfl, e2⟩ := asB_bind e1
  cases ra
  cases e2
  exact ⟨k, rfl, q1 _ _ (Grow.refl _ _ _) h1.rel _ (.bl _)⟩
def ifV (F : Rho → M Bool) (Fa Fb : Rho → M Sv) (ρ : Rho) : M Sv := (F ρ).bind fun k => if k = true then Fa ρ else Fb ρ
theorem x_if {F : Rho → M Bool} (hc : PTX X E c F) (ha : PX X E a Fa) (hb : PX X E b Fb) : PX X E (.IfExp c a b pos) (ifV F Fa Fb) := pe_weak (pe_ifExp hc ha hb) fun σ H Q ⟨W, ρ, μ, r, h, e, q⟩ => by
  refine tT_bind h e q fun k W1 H1 μ1 g1 h1 e1 q1 => ?_
  cases k with
  | false =>
    rw [if_neg Bool.false_ne_true] at e1 ⊢
    exact ⟨W1, ρ, μ1, r, h1, e1, q1⟩
  | true =>
    rw [if_pos rfl] at e1 ⊢
    exact ⟨W1, ρ, μ1, r, h1, e1, q1⟩

/-! ### tests -/
def tst (F : Rho → M Sv) (ρ : Rho) : M Bool := (F ρ).bind asB
theorem t_val (h : PX X E a Fa) (he : ∀ whole, isTrue a X.env whole = (do let v ← whole; standAt a.pos; holding [v] (truthy v)) := by intro _; rfl) : PTX X E a (tst Fa) := pt_weak (pt_val h he) fun σ H Q ⟨W, ρ, μ, r, h, e, q⟩ => by
  refine tX_bind h e q fun v a W1 H1 μ1 g1 h1 ra e1 q1 => ?_
  obtain ⟨b, rfl, rfl⟩ := asB_some e1
  cases ra
  exact ⟨b, rfl, q1 W1 H1 (Grow.refl _ _ _) h1.rel⟩
theorem tst_ent {K : PySem.W.Frag} {σ : L2.St} {H : Hp} {Q : Bool → Hp → Prop} (h : tT K E (tst (bin op Fa Fb)) σ H Q) : tTest (tOp (rO2 K E op) (tX K E Fa) (tX K E Fb)) σ H Q := by
  obtain ⟨W, ρ, μ, r, h, e, q⟩ := h
  refine bin_ent ?_
  refine tX_bind h e q fun v a W1 H1 μ1 g1 h1 ra e1 q1 => ?_
  obtain ⟨b, rfl, rfl⟩ := asB_some e1
  cases ra
  exact ⟨b, rfl, q1 W1 H1 (Grow.refl _ _ _) h1.rel⟩
theorem t_cmp {o : CmpOp} (ho : OpR X (compareOp o) (rO2 X.K E op)) (ha : PX X E a Fa) (hb : PX X E b Fb) (hm : behindInMarks o b = false := by first | exact nobehind _ (by decide) (by decide) | rfl) : PTX X E (.Compare a [o] [b] pos) (tst (bin op Fa Fb)) :=
  pt_weak (pt_cmpR ho ha hb hm) fun _ _ _ h => tst_ent h
theorem t_chain {o o' : CmpOp} (ho : OpR X (compareOp o) (rO2 X.K E op)) (ho' : OpR X (compareOp o') (rO2 X.K E op')) (ha : PX X E a Fa) (hb : PX X E b Fb) (hc : PX X E c Fc)
    (hm : lastMarks [o, o'] [b, c] = false := by with_unfolding_all rfl) : PTX X E (.Compare a [o, o'] [b, c] pos) (tst (chain op op' Fa Fb Fc)) := pt_weak (pt_chain ho ho' ha hb hc hm) fun σ H Q ⟨W, ρ, μ, r, h, e, q⟩ => by
  refine chain_ent ?_
  refine tX_bind h e q fun v a W1 H1 μ1 g1 h1 ra e1 q1 => ?_
  obtain ⟨b, rfl, rfl⟩ := asB_some e1
  cases ra
  exact ⟨b, rfl, q1 W1 H1 (Grow.refl _ _ _) h1.rel⟩
def notT (F : Rho → M Bool) (ρ : Rho) : M Bool := (F ρ).bind fun k => M.ret (!k)
def andT (F G : Rho → M Bool) (ρ : Rho) : M Bool := (F ρ).bind fun k => if k = true then G ρ else M.ret false
def orT (F G : Rho → M Bool) (ρ : Rho) : M Bool := (F ρ).bind fun k => if k = true then M.ret true else G ρ
theorem t_not {F : Rho → M Bool} (ha : PTX X E a F) : PTX X E (.UnaryOp .Not a pos) (notT F) := pt_weak (pt_not ha) fun σ H Q ⟨W, ρ, μ, r, h, e, q⟩ => by
  refine tT_bind h e q fun k W1 H1 μ1 g1 h1 e1 q1 => ?_
  cases e1
  exact q1 W1 H1 (Grow.refl _ _ _) h1.rel
abbrev PWX (X : Cx) (E : XK) (e : Expr) (F : Rho → M Bool) : Prop := PW X e (tT X.K E F)
theorem pw_weak {X : Cx} {e : Expr} {t t' : TT} (h : PW X e t) (w : ∀ σ H Q, t' σ H Q → t σ H Q) : PW X e t' := ⟨fun wh pins s σ H Q I q => h.run wh pins s σ H Q I (w _ _ _ q)⟩
theorem w_and1 {F : Rho → M Bool} (ha : PTX X E a F) : PWX X E (.BoolOp .And [a] pos) F := pw_and1 ha
theorem w_or1 {F : Rho → M Bool} (ha : PTX X E a F) : PWX X E (.BoolOp .Or [a] pos) F := pw_or1 ha
theorem w_and {F G : Rho → M Bool} {rest : List Expr} (ha : PTX X E a F) (hb : PWX X E (.BoolOp .And (b :: rest) pos) G) : PWX X E (.BoolOp .And (a :: b :: rest) pos) (andT F G) := pw_weak (pw_and ha hb) fun σ H Q ⟨W, ρ, μ, r, h, e, q⟩ => by
  refine tT_bind h e q fun k W1 H1 μ1 g1 h1 e1 q1 => ?_
  cases k with
  | false =>
    rw [if_neg Bool.false_ne_true] at e1 ⊢
    cases e1
    exact q1 W1 H1 (Grow.refl _ _ _) h1.rel
  | true =>
    rw [if_pos rfl] at e1 ⊢
    exact ⟨W1, ρ, μ1, r, h1, e1, q1⟩
theorem w_or {F G : Rho → M Bool} {rest : List Expr} (ha : PTX X E a F) (hb : PWX X E (.BoolOp .Or (b :: rest) pos) G) : PWX X E (.BoolOp .Or (a :: b :: rest) pos) (orT F G) := pw_weak (pw_or ha hb) fun σ H Q ⟨W, ρ, μ, r, h, e, q⟩ => by
  refine tT_bind h e q fun k W1 H1 μ1 g1 h1 e1 q1 => ?_
  cases k with
  | true =>
    rw [if_pos rfl] at e1 ⊢
    cases e1
    exact q1 W1 H1 (Grow.refl _ _ _) h1.rel
  | false =>
    rw [if_neg Bool.false_ne_true] at e1 ⊢
    exact ⟨W1, ρ, μ1, r, h1, e1, q1⟩
theorem t_w {e : Expr} {F : Rho → M Bool} (h : PWX X E e F) : PTX X E e F := h.pt
end
end Pf

namespace Pf
open PySem PySem.Spec PyProof.Rows L2

/-! ### reading lists, laying new ones -/
/-- the items of a list (or tuple) value -/
def lsOf (s : Sv) : M (List Sv) := fun μ => match s with
  | .dat (.list ds) => some (.ok (ds.map Sv.dat) μ)
  | .ref t => match μ[t]? with
    | some (.lst xs) => some (.ok xs μ)
    | _ => none
  | _ => none
/-- a value as data, by reading -/
def rd (s : Sv) : M PyData := fun μ => match s with
  | .dat d => some (.ok d μ)
  | .ref t => match μ[t]? with
    | some (.lst xs) => (dats xs).map fun ds => .ok (.list ds) μ
    | _ => none
  | _ => none
/-- a new list: with a tag (it may be written), or as data -/
def mkl (m : Bool) (xs : List Sv) : M Sv := fun μ => match m with
  | true => some (.ok (.ref μ.length) (μ ++ [.lst xs]))
  | false => (dats xs).map fun ds => .ok (.dat (.list ds)) μ
def mkt (xs : List Sv) : M Sv := fun μ => (dats xs).map fun ds => .ok (.dat (.tuple ds)) μ
section
variable {K : PySem.W.Frag} {E : XK} {W : Wd} {H : Hp} {μ : Mu}
theorem lsOf_rel {s : Sv} {v : V} {r : Res (List Sv)} (R : Rel K W H μ) (h : SvR K W μ.length v s) (e : lsOf s μ = some r) : ∃ a vs xs, v = .ref a ∧ H a = some (.lst vs) ∧ SvRs K W μ.length vs xs ∧ r = .ok xs μ := by
  cases s with
  | dat d =>
    cases d with
    | list ds =>
      cases h with
      | lst h r =>
        cases e
        exact ⟨_, _, _, rfl, R.sub _ _ h, rel_dats r, rfl⟩
    | _ => cases e
  | ref t =>
    obtain ⟨_, rfl⟩ := h
    unfold lsOf at e
    cases q : μ[t]? with
    | none =>
      simp only [q] at e
      cases e
    | some o =>
      cases o with
      | gone =>
        simp only [q] at e
        cases e
      | lst xs =>
        simp only [q] at e
        cases e
        obtain ⟨vs, h1, h2⟩ := R.obj t _ q
        exact ⟨_, vs, xs, rfl, h1, h2, rfl⟩
  | scr ns => cases e
theorem rd_rel {s : Sv} {v : V} {r : Res PyData} (R : Rel K W H μ) (h : SvR K W μ.length v s) (e : rd s μ = some r) : ∃ d, r = .ok d μ ∧ Dq K H v d := by
  cases s with
  | dat d =>
    cases e
    exact ⟨d, rfl, Dq.mono R.sub h⟩
  | ref t =>
    obtain ⟨_, rfl⟩ := h
    unfold rd at e
    cases q : μ[t]? with
    | none =>
      simp only [q] at e
      cases e
    | some o =>
      cases o with
      | gone =>
        simp only [q] at e
        cases e
      | lst xs =>
        simp only [q] at e
        cases w : dats xs with
        | none =>
          rw [w] at e
          cases e
        | some ds =>
          rw [w] at e
          cases e
          obtain ⟨vs, h1, h2⟩ := R.obj t _ q
          exact ⟨_, rfl, .lst h1 (Dqs.mono R.sub (dats_rel h2 w))⟩
  | scr ns => cases e
theorem mkl_ok {m : Bool} {xs : List Sv} {vs : List V} {p : Addr} {r : Res Sv} {Q : VK} (R : Rel K W H μ) (hp : H p = none) (h : SvRs K W μ.length vs xs) (e : mkl m xs μ = some r) (q : KoV K E W H μ r Q) : Q (.ref p) (upd H p (.lst vs)) := by
  cases m with
  | true =>
    cases e
    have hl : (μ ++ [MObj.lst xs]).length = μ.length + 1 := by simp
    exact q _ _ (grow_alloc R hp) (R.alloc hp h) _ ⟨by omega, by rw [Wd.tag_self]⟩
  | false =>
    have e' : (dats xs).map (fun ds => Res.ok (Sv.dat (.list ds)) μ) = some r := e
    cases w : dats xs with
    | none =>
      rw [w] at e'
      cases e'
    | some ds =>
      rw [w] at e'
      cases e'
      have g : Grow W H μ (W.put p (.lst vs)) (upd H p (.lst vs)) μ := grow_share R hp
      exact q _ _ g (R.share hp) _ (.lst upd_same (Dqs.mono g.same (dats_rel h w)))
theorem mkt_ok {xs : List Sv} {vs : List V} {p : Addr} {r : Res Sv} {Q : VK} (R : Rel K W H μ) (hp : H p = none) (h : SvRs K W μ.length vs xs) (e : mkt xs μ = some r) (q : KoV K E W H μ r Q) : Q (.ref p) (upd H p (.tup vs)) := by
  have e' : (dats xs).map (fun ds => Res.ok (Sv.dat (.tuple ds)) μ) = some r := e
  cases w : dats xs with
  | none =>
    rw [w] at e'
    cases e'
  | some ds =>
    rw [w] at e'
    cases e'
    have g : Grow W H μ (W.put p (.tup vs)) (upd H p (.tup vs)) μ := grow_share R hp
    exact q _ _ g (R.share hp) _ (.tup (SqT.of upd_same) (Dqs.mono g.same (dats_rel h w)))
theorem dq_tup (R : Rel K W H μ) {p : Addr} {vs : List V} {ds : List PyData} {r : Res Sv} {Q : VK} (hp : H p = none) (h : Dqs K W.S vs ds) (e : (M.ret (.dat (.tuple ds)) : M Sv) μ = some r) (q : KoV K E W H μ r Q) : Q (.ref p) (upd H p (.tup vs)) := by
  cases e
  have g : Grow W H μ (W.put p (.tup vs)) (upd H p (.tup vs)) μ := grow_share R hp
  exact q _ _ g (R.share hp) _ (.tup (SqT.of upd_same) (Dqs.mono g.same h))
end

/-! ### data without dicts is the layer's -/
section
variable {K : PySem.W.Frag} {H : Hp}
mutual
theorem Dq.dp : ∀ {v : V} {d : PyData}, Dq K H v d → d.canLay0 = true → Dp K H v d
  | _, _, .non, _ => .non
  | _, _, .bl b, _ => .bl b
  | _, _, .int i, _ => .int i
  | _, _, .str x, _ => .str x
  | _, _, .lst h r, c => .lst (SqL.of h) (Dqs.dp r (by simpa [PyData.canLay0] using c))
  | _, _, .tup h r, c => .tup h (Dqs.dp r (by simpa [PyData.canLay0] using c))
  | _, _, .dct h r, c => by simp [PyData.canLay0] at c
theorem Dqs.dp : ∀ {v : List V} {d : List PyData}, Dqs K H v d → PyData.canLayAll0 d = true → DpAll K H v d
  | _, _, .nil, _ => .nil
  | _, d :: ds, .cons h r, c => by
    have c' : d.canLay0 = true ∧ PyData.canLayAll0 ds = true := by simpa [PyData.canLayAll0] using c
    exact .cons (Dq.dp h c'.1) (Dqs.dp r c'.2)
end
end

/-! ### the operators -/
def szOk (n : Nat) : Bool := decide (n ≤ 1000000)
theorem szOk_line {n : Nat} (h : szOk n = true) : n ≤ sizeLine := by
  have := of_decide_eq_true h
  rw [sizeLine_eq]
  omega
theorem szOk_lt {n : Nat} (h : szOk n = true) : n < sizeLine := by
  have := of_decide_eq_true h
  rw [sizeLine_eq]
  omega
def pAdd (m : Bool) (a b : Sv) : M Sv := match a, b with
  | .dat (.int i), .dat (.int j) => M.ret (.dat (.int (i + j)))
  | .dat (.tuple xs), .dat (.tuple ys) => if szOk (xs.length + ys.length) = true then M.ret (.dat (.tuple (xs ++ ys))) else M.fail
  | .dat (.str x), .dat (.str y) => if szOk (x.length + y.length) = true then M.ret (.dat (.str (x ++ y))) else M.fail
  | .dat (.list xs), b => (lsOf b).bind fun ys => if szOk (xs.length + ys.length) = true then mkl m (xs.map Sv.dat ++ ys) else M.fail
  | .ref t, b => (lsOf (.ref t)).bind fun xs => (lsOf b).bind fun ys => if szOk (xs.length + ys.length) = true then mkl m (xs ++ ys) else M.fail
  | _, _ => M.fail
def pSub (a b : Sv) : M Sv := match a, b with
  | .dat (.int i), .dat (.int j) => M.ret (.dat (.int (i - j)))
  | _, _ => M.fail
def small (i : Int) : Bool := decide (-(2 ^ 64) < i) && decide (i < 2 ^ 64)
def pMul (m : Bool) (a b : Sv) : M Sv := match a, b with
  | .dat (.int i), .dat (.int j) => if (small i || small j) = true then M.ret (.dat (.int (i * j))) else M.fail
  | .dat (.list xs), .dat (.int k) => if (small (2 * k) && szOk (xs.length * k.toNat)) = true then mkl m (List.replicate k.toNat (xs.map Sv.dat)).flatten else M.fail
  | _, _ => M.fail
def pFdiv (a b : Sv) : M Sv := match a, b with
  | .dat (.int i), .dat (.int j) => if (decide (0 < j) && decide (j < 1073741824)) = true then M.ret (.dat (.int (i / j))) else M.fail
  | _, _ => M.fail
def pMod (a b : Sv) : M Sv := match a, b with
  | .dat (.int i), .dat (.int j) => if decide (0 < j) = true then M.ret (.dat (.int (i % j))) else M.fail
  | _, _ => M.fail
def pPow (a b : Sv) : M Sv := match a, b with
  | .dat (.int i), .dat (.int j) => if (decide (0 ≤ j) && decide (j ≤ 1000000) && decide (i.natAbs < 2 ^ 64)) = true then M.ret (.dat (.int (i ^ j.toNat))) else M.fail
  | _, _ => M.fail
def pCmp (f : Int → Int → Bool) (a b : Sv) : M Sv := match a, b with
  | .dat (.int i), .dat (.int j) => M.ret (.dat (.bool (f i j)))
  | _, _ => M.fail
abbrev pLt := pCmp fun i j => decide (i < j)
abbrev pLe := pCmp fun i j => decide (i ≤ j)
abbrev pGt := pCmp fun i j => decide (j < i)
abbrev pGe := pCmp fun i j => decide (j ≤ i)
def pEqD (n : Bool) (a b : Sv) : M Sv := (rd a).bind fun d => (rd b).bind fun e => if (SeqAt.shaped d && SeqAt.shaped e) = true then M.ret (.dat (.bool (Bool.xor n (PyData.eqv d e)))) else M.fail
/-- == of two texts, of two ints; of other data -/
def pEqn (n : Bool) (a b : Sv) : M Sv := match a, b with
  | .dat (.str x), .dat (.str y) => M.ret (.dat (.bool (Bool.xor n (decide (x = y)))))
  | .dat (.int x), .dat (.int y) => M.ret (.dat (.bool (Bool.xor n (decide (x = y)))))
  | a, b => pEqD n a b
abbrev pEq := pEqn false
abbrev pNe := pEqn true
def isNon : Sv → Bool
  | .dat .none => true
  | _ => false
def pIs (n : Bool) (a b : Sv) : M Sv := match b with
  | .dat .none => M.ret (.dat (.bool (Bool.xor n (isNon a))))
  | _ => M.fail
def orFail {α : Type} (o : Option α) : M α := fun μ => o.map fun a => .ok a μ
def pIx (a b : Sv) : M Sv := match b with
  | .dat (.int i) => match a with
    | .dat (.tuple xs) => (orFail (atI xs i)).bind fun d => M.ret (.dat d)
    | .dat (.str z) => (orFail (if szOk z.length = true then atI z.cps.toList i else none)).bind fun c => M.ret (.dat (.str ⟨#[c]⟩))
    | a => (lsOf a).bind fun xs => orFail (atI xs i)
  | _ => M.fail
theorem iff_ok {α : Type} {c : Bool} {m : M α} {μ : Mu} {r : Res α} (h : (if c = true then m else M.fail) μ = some r) : c = true ∧ m μ = some r := by
  cases c with
  | true =>
    rw [if_pos rfl] at h
    exact ⟨rfl, h⟩
  | false =>
    rw [if_neg Bool.false_ne_true] at h
    cases h
theorem orFail_some {α β : Type} {o : Option α} {k : α → M β} {μ : Mu} {r : Res β} (h : M.bind (orFail o) k μ = some r) : ∃ a, o = some a ∧ k a μ = some r := by
  cases o with
  | none => cases h
  | some a => exact ⟨a, rfl, h⟩
theorem lsOf_bind {α : Type} {s : Sv} {k : List Sv → M α} {μ : Mu} {r : Res α} (h : M.bind (lsOf s) k μ = some r) : ∃ xs, lsOf s μ = some (.ok xs μ) ∧ k xs μ = some r := by
  rcases bind_some h with ⟨xs, μ1, e1, e2⟩ | ⟨c, μ1, e1, rfl⟩
  · have : μ1 = μ := by
      unfold lsOf at e1
      split at e1
      · cases e1; rfl
      · split at e1
        · cases e1; rfl
        · cases e1
      · cases e1
    subst this
    exact ⟨xs, e1, e2⟩
  · unfold lsOf at e1
    split at e1
    · cases e1
    · split at e1 <;> cases e1
    · cases e1
theorem rd_bind {α : Type} {s : Sv} {k : PyData → M α} {μ : Mu} {r : Res α} (h : M.bind (rd s) k μ = some r) : ∃ d, rd s μ = some (.ok d μ) ∧ k d μ = some r := by
  rcases bind_some h with ⟨d, μ1, e1, e2⟩ | ⟨c, μ1, e1, rfl⟩
  · have : μ1 = μ := by
      unfold rd at e1
      split at e1
      · cases e1; rfl
      · split at e1
        · rename_i xs _
          cases q : dats xs with
          | none => rw [q] at e1; cases e1
          | some ds => rw [q] at e1; cases e1; rfl
        · cases e1
      · cases e1
    subst this
    exact ⟨d, e1, e2⟩
  · unfold rd at e1
    split at e1
    · cases e1
    · split at e1
      · rename_i xs _
        cases q : dats xs with
        | none => rw [q] at e1; cases e1
        | some ds => rw [q] at e1; cases e1
      · cases e1
    · cases e1
section
variable {X : Cx} {E : XK}
theorem dq_int {K : PySem.W.Frag} {H : Hp} {v : V} {i : Int} (h : Dq K H v (.int i)) : v = .int i := by
  cases h
  rfl
theorem atI_rel {K : PySem.W.Frag} {H : Hp} {vs : List V} {ds : List PyData} {i : Int} {d : PyData} (h : Dqs K H vs ds) (e : atI ds i = some d) : ∃ v, atI vs i = some v ∧ Dq K H v d := by
  unfold atI at e ⊢
  rw [h.len]
  cases q : ixN ds.length i with
  | none =>
    rw [q] at e
    cases e
  | some j =>
    rw [q] at e
    obtain ⟨v, h1, h2⟩ := h.getD (i := j) e
    exact ⟨v, h1, h2⟩
theorem atI_rels {K : PySem.W.Frag} {W : Wd} {n : Nat} {vs : List V} {xs : List Sv} {i : Int} {x : Sv} (h : SvRs K W n vs xs) (e : atI xs i = some x) : ∃ v, atI vs i = some v ∧ SvR K W n v x := by
  unfold atI at e ⊢
  rw [h.len]
  cases q : ixN xs.length i with
  | none =>
    rw [q] at e
    cases e
  | some j =>
    rw [q] at e
    obtain ⟨v, h1, h2⟩ := h.get (i := j) e
    exact ⟨v, h1, h2⟩
theorem o_sub : OpR X (binaryOp .Sub) (rO2 X.K E pSub) := opr_weak op_sub fun x y H Q ⟨W, μ, a, b, r, R, ra, rb, e, q⟩ => by
  unfold pSub at e
  split at e
  · cases e
    exact ⟨_, _, dq_int ra, dq_int rb, q _ _ (Grow.refl _ _ _) R _ (.int _)⟩
  · cases e
theorem o_fdiv : OpR X (binaryOp .FloorDiv) (rO2 X.K E pFdiv) := opr_weak op_fdiv fun x y H Q ⟨W, μ, a, b, r, R, ra, rb, e, q⟩ => by
  unfold pFdiv at e
  split at e
  · obtain ⟨c, e⟩ := iff_ok e
    cases e
    have c' := Bool.and_eq_true_iff.mp c
    exact ⟨_, _, dq_int ra, dq_int rb, ⟨of_decide_eq_true c'.1, of_decide_eq_true c'.2⟩, q _ _ (Grow.refl _ _ _) R _ (.int _)⟩
  · cases e
theorem o_mod : OpR X (binaryOp .Mod) (rO2 X.K E pMod) := opr_weak op_mod fun x y H Q ⟨W, μ, a, b, r, R, ra, rb, e, q⟩ => by
  unfold pMod at e
  split at e
  · obtain ⟨c, e⟩ := iff_ok e
    cases e
    exact ⟨_, _, dq_int ra, dq_int rb, of_decide_eq_true c, q _ _ (Grow.refl _ _ _) R _ (.int _)⟩
  · cases e
theorem o_pow : OpR X (binaryOp .Pow) (rO2 X.K E pPow) := opr_weak op_pow fun x y H Q ⟨W, μ, a, b, r, R, ra, rb, e, q⟩ => by
  unfold pPow at e
  split at e
  · obtain ⟨c, e⟩ := iff_ok e
    cases e
    have c' := Bool.and_eq_true_iff.mp c
    have c2 := Bool.and_eq_true_iff.mp c'.1
    exact ⟨_, _, dq_int ra, dq_int rb, ⟨of_decide_eq_true c2.1, of_decide_eq_true c2.2, of_decide_eq_true c'.2⟩, q _ _ (Grow.refl _ _ _) R _ (.int _)⟩
  · cases e
theorem o_cmp {o : CmpOp} {f : Int → Int → Bool} (h : OpR X (compareOp o) (rI0 fun i j => .bl (f i j))) : OpR X (compareOp o) (rO2 X.K E (pCmp f)) := opr_weak h fun x y H Q ⟨W, μ, a, b, r, R, ra, rb, e, q⟩ => by
  unfold pCmp at e
  split at e
  · cases e
    exact ⟨_, _, dq_int ra, dq_int rb, q _ _ (Grow.refl _ _ _) R _ (.bl _)⟩
  · cases e
theorem o_lt : OpR X (compareOp .Lt) (rO2 X.K E pLt) := o_cmp op_lt
theorem o_le : OpR X (compareOp .LtE) (rO2 X.K E pLe) := o_cmp op_le
theorem o_gt : OpR X (compareOp .Gt) (rO2 X.K E pGt) := o_cmp op_gt
theorem o_ge : OpR X (compareOp .GtE) (rO2 X.K E pGe) := o_cmp op_ge
theorem eqn_ent {K : PySem.W.Frag} {n : Bool} {x y : V} {H : Hp} {Q : VK} (h : rO2 K E (pEqD n) x y H Q) : ∃ d e, Dp K H x d ∧ Dp K H y e ∧ SeqAt.shaped d = true ∧ SeqAt.shaped e = true ∧ Q (.bl (Bool.xor n (PyData.eqv d e))) H := by
  obtain ⟨W, μ, a, b, r, R, ra, rb, e, q⟩ := h
  obtain ⟨d, e1, e⟩ := rd_bind e
  obtain ⟨c, e2, e⟩ := rd_bind e
  obtain ⟨g, e⟩ := iff_ok e
  obtain ⟨g1, g2⟩ := Bool.and_eq_true_iff.mp g
  obtain ⟨d', z1, h1⟩ := rd_rel R ra e1
  obtain ⟨c', z2, h2⟩ := rd_rel R rb e2
  cases z1
  cases z2
  cases e
  exact ⟨d, c, h1.dp (SeqAt.canLay_of_shaped g1), h2.dp (SeqAt.canLay_of_shaped g2), g1, g2, q _ _ (Grow.refl _ _ _) R _ (.bl _)⟩
theorem eq_ent {K : PySem.W.Frag} {n : Bool} {x y : V} {H : Hp} {Q : VK} (h : rO2 K E (pEqn n) x y H Q) :
    (scal x y = true ∧ Q (.bl (Bool.xor n (decide (x = y)))) H) ∨ ∃ d e, Dp K H x d ∧ Dp K H y e ∧ SeqAt.shaped d = true ∧ SeqAt.shaped e = true ∧ Q (.bl (Bool.xor n (PyData.eqv d e))) H := by
  obtain ⟨W, μ, a, b, r, R, ra, rb, e, q⟩ := h
  unfold pEqn at e
  split at e
  · rename_i u v
    cases e
    cases ra
    cases rb
    refine .inl ⟨rfl, ?_⟩
    have z : decide (V.str u = V.str v) = decide (u = v) := by
      by_cases h : u = v
      · rw [h]
        simp
      · rw [decide_eq_false h, decide_eq_false fun z => h (V.str.inj z)]
    rw [z]
    exact q _ _ (Grow.refl _ _ _) R _ (.bl _)
  · rename_i u v
    cases e
    cases ra
    cases rb
    refine .inl ⟨rfl, ?_⟩
    have z : decide (V.int u = V.int v) = decide (u = v) := by
      by_cases h : u = v
      · rw [h]
        simp
      · rw [decide_eq_false h, decide_eq_false fun z => h (V.int.inj z)]
    rw [z]
    exact q _ _ (Grow.refl _ _ _) R _ (.bl _)
  · exact .inr (eqn_ent ⟨W, μ, a, b, r, R, ra, rb, e, q⟩)
theorem o_eq (hu : X.A.units + 64 < cLine) : OpR X (compareOp .Eq) (rO2 X.K E pEq) := opr_weak (op_eq.or (op_eqD hu)) fun x y H Q h => by
  rcases eq_ent h with ⟨h1, q⟩ | ⟨d, e, h1, h2, g1, g2, q⟩
  · rw [Bool.false_xor] at q
    exact .inl ⟨h1, q⟩
  · rw [Bool.false_xor] at q
    exact .inr ⟨d, e, h1, h2, g1, g2, q⟩
theorem o_ne (hu : X.A.units + 64 < cLine) : OpR X (compareOp .NotEq) (rO2 X.K E pNe) := opr_weak (op_ne.or (op_neD hu)) fun x y H Q h => by
  rcases eq_ent h with ⟨h1, q⟩ | ⟨d, e, h1, h2, g1, g2, q⟩
  · rw [Bool.true_xor] at q
    exact .inl ⟨h1, q⟩
  · rw [Bool.true_xor] at q
    exact .inr ⟨d, e, h1, h2, g1, g2, q⟩
theorem isNon_rel {K : PySem.W.Frag} {W : Wd} {n : Nat} {v : V} {s : Sv} (h : SvR K W n v s) : isNon s = decide (v = .non) := by
  cases s with
  | ref t =>
    obtain ⟨_, rfl⟩ := h
    rfl
  | scr ns =>
    obtain ⟨_, rfl, _⟩ := h
    rfl
  | dat d => cases h <;> rfl
theorem o_is : OpR X (compareOp .Is) (rO2 X.K E (pIs false)) := opr_weak op_isN fun x y H Q ⟨W, μ, a, b, r, R, ra, rb, e, q⟩ => by
  unfold pIs at e
  split at e
  · cases rb
    cases e
    rw [isNon_rel ra] at q
    exact ⟨rfl, q _ _ (Grow.refl _ _ _) R _ (by rw [Bool.false_xor]; exact .bl _)⟩
  · cases e
theorem o_isnot : OpR X (compareOp .IsNot) (rO2 X.K E (pIs true)) := opr_weak op_notN fun x y H Q ⟨W, μ, a, b, r, R, ra, rb, e, q⟩ => by
  unfold pIs at e
  split at e
  · cases rb
    cases e
    rw [isNon_rel ra] at q
    exact ⟨rfl, q _ _ (Grow.refl _ _ _) R _ (by rw [Bool.true_xor]; exact .bl _)⟩
  · cases e
theorem o_add {m : Bool} : OpR X (binaryOp .Add) (rO2 X.K E (pAdd m)) := by
  refine opr_weak ((op_add (X := X)).or (op_catA.or (op_add_str.or op_cat))) fun x y H Q ⟨W, μ, a, b, r, R, ra, rb, e, q⟩ => ?_
  unfold pAdd at e
  split at e
  · cases e
    exact .inl ⟨_, _, dq_int ra, dq_int rb, q _ _ (Grow.refl _ _ _) R _ (.int _)⟩
  · obtain ⟨c, e⟩ := iff_ok e
    cases ra with
    | tup h1 r1 =>
      cases rb with
      | tup h2 r2 =>
        refine .inr (.inl ⟨_, _, _, _, rfl, rfl, seqT_mono R.sub h1, seqT_mono R.sub h2, by rw [r1.len, r2.len]; exact szOk_line c, fun z => ?_, fun _ z => ?_, fun _ _ p hp => dq_tup R hp (r1.append r2) e q⟩)
        · subst z
          cases r1
          cases e
          exact q _ _ (Grow.refl _ _ _) R _ (.tup h2 r2)
        · subst z
          cases r2
          cases e
          rw [List.append_nil] at q
          exact q _ _ (Grow.refl _ _ _) R _ (.tup h1 r1)
  · obtain ⟨c, e⟩ := iff_ok e
    cases e
    cases ra
    cases rb
    exact .inr (.inr (.inl ⟨_, _, rfl, rfl, szOk_line c, q _ _ (Grow.refl _ _ _) R _ (.str _)⟩))
  · rename_i xs
    obtain ⟨ys, e1, e⟩ := lsOf_bind e
    obtain ⟨c, e⟩ := iff_ok e
    cases ra with
    | lst h1 r1 =>
      obtain ⟨p2, vs2, xs2, rfl, h2, r2, z⟩ := lsOf_rel R rb e1
      cases z
      refine .inr (.inr (.inr ⟨_, _, _, _, rfl, rfl, R.sub _ _ h1, h2, ?_, fun p hp => mkl_ok R hp ((rel_dats r1).append r2) e q⟩))
      rw [r1.len, r2.len]
      exact szOk_line c
  · obtain ⟨xs, e0, e⟩ := lsOf_bind e
    obtain ⟨ys, e1, e⟩ := lsOf_bind e
    obtain ⟨c, e⟩ := iff_ok e
    obtain ⟨p1, vs1, xs1, rfl, h1, r1, z⟩ := lsOf_rel R ra e0
    cases z
    obtain ⟨p2, vs2, xs2, rfl, h2, r2, z⟩ := lsOf_rel R rb e1
    cases z
    refine .inr (.inr (.inr ⟨_, _, _, _, rfl, rfl, h1, h2, ?_, fun p hp => mkl_ok R hp (r1.append r2) e q⟩))
    rw [r1.len, r2.len]
    exact szOk_line c
  · cases e
theorem flat_rels {K : PySem.W.Frag} {W : Wd} {n : Nat} {vs : List V} {xs : List Sv} (h : SvRs K W n vs xs) : ∀ k : Nat, SvRs K W n (List.replicate k vs).flatten (List.replicate k xs).flatten
  | 0 => .nil
  | k + 1 => by
    rw [List.replicate_succ, List.replicate_succ, List.flatten_cons, List.flatten_cons]
    exact h.append (flat_rels h k)
theorem small_ok {i : Int} (h : small i = true) : -(2 ^ 64) < i ∧ i < 2 ^ 64 := by
  have c := Bool.and_eq_true_iff.mp h
  exact ⟨of_decide_eq_true c.1, of_decide_eq_true c.2⟩
theorem o_mul {m : Bool} : OpR X (binaryOp .Mult) (rO2 X.K E (pMul m)) := by
  refine opr_weak ((op_mul (X := X)).or op_rep) fun x y H Q ⟨W, μ, a, b, r, R, ra, rb, e, q⟩ => ?_
  unfold pMul at e
  split at e
  · obtain ⟨c, e⟩ := iff_ok e
    cases e
    refine .inl ⟨_, _, dq_int ra, dq_int rb, ?_, q _ _ (Grow.refl _ _ _) R _ (.int _)⟩
    rcases Bool.or_eq_true_iff.mp c with c | c
    · exact .inl (small_ok c)
    · exact .inr (small_ok c)
  · obtain ⟨c, e⟩ := iff_ok e
    obtain ⟨c1, c2⟩ := Bool.and_eq_true_iff.mp c
    have c3 := small_ok c1
    cases ra with
    | lst h1 r1 =>
      refine .inr ⟨_, _, _, rfl, dq_int rb, R.sub _ _ h1, by omega, by omega, by rw [r1.len]; exact szOk_line c2, fun p hp => mkl_ok R hp (flat_rels (rel_dats r1) _) e q⟩
  · cases e
theorem o_ix : IxR X (rO2 X.K E pIx) := by
  refine ixr_weak ix_seq fun x y H Q ⟨W, μ, a, b, r, R, ra, rb, e, q⟩ => ?_
  unfold pIx at e
  split at e
  · rename_i i
    have rb' := dq_int rb
    subst rb'
    split at e
    · obtain ⟨d, e1, e⟩ := orFail_some e
      cases e
      cases ra with
      | tup h1 r1 =>
        obtain ⟨v, a1, a2⟩ := atI_rel r1 e1
        exact .inr (.inl ⟨_, _, _, v, rfl, rfl, seqT_mono R.sub h1, a1, q _ _ (Grow.refl _ _ _) R _ a2⟩)
    · obtain ⟨d, e1, e⟩ := orFail_some e
      cases e
      cases ra
      split at e1
      · rename_i hz
        exact .inr (.inr ⟨_, _, _, rfl, rfl, szOk_line hz, e1, q _ _ (Grow.refl _ _ _) R _ (.str _)⟩)
      · cases e1
    · obtain ⟨xs, e0, e⟩ := lsOf_bind e
      obtain ⟨p1, vs1, xs1, rfl, h1, r1, z⟩ := lsOf_rel R ra e0
      cases z
      cases w : atI xs i with
      | none =>
        rw [w] at e
        cases e
      | some d =>
        rw [w] at e
        cases e
        obtain ⟨v, a1, a2⟩ := atI_rels r1 w
        exact .inl ⟨_, _, _, v, rfl, rfl, SqL.of h1, a1, q _ _ (Grow.refl _ _ _) R _ a2⟩
  · cases e
end
end Pf

namespace Pf
open PySem PySem.Spec PyProof.Rows L2

section
variable {X : Cx} {E : XK} {e a b c : Expr} {es : List Expr} {Fa Fb Fc : Rho → M Sv} {Fs : Rho → M (List Sv)} {pos p : Pos}
/-! ### arguments, displays -/
def argN (_ : Rho) : M (List Sv) := M.ret []
def argC (Fa : Rho → M Sv) (Fs : Rho → M (List Sv)) (ρ : Rho) : M (List Sv) := (Fa ρ).bind fun a => (Fs ρ).bind fun r => M.ret (a :: r)
theorem a_nil : PAX X E [] argN := pa_weak pa_nil fun σ H Q ⟨W, ρ, μ, r, h, e, q⟩ => by
  cases e
  exact q _ _ (Grow.refl _ _ _) h.rel _ .nil
theorem a_cons (ha : PX X E a Fa) (hr : PAX X E es Fs) (hs : starEach (a :: es) X.env = (false, eval a X.env) :: starEach es X.env := by rfl) : PAX X E (a :: es) (argC Fa Fs) := pa_weak (pa_cons ha hr hs) fun σ H Q ⟨W, ρ, μ, r, h, e, q⟩ => by
  refine tX_bind h e q fun v a W1 H1 μ1 g1 h1 ra e1 q1 => tAr_bind h1 e1 q1 fun vs ss W2 H2 μ2 g2 h2 rs e2 q2 => ?_
  cases e2
  exact q2 _ _ (Grow.refl _ _ _) h2.rel _ (.cons (ra.grow g2) rs)
def tupV (Fs : Rho → M (List Sv)) (ρ : Rho) : M Sv := (Fs ρ).bind fun ss => if szOk ss.length = true then mkt ss else M.fail
def lstV (m : Bool) (Fs : Rho → M (List Sv)) (ρ : Rho) : M Sv := (Fs ρ).bind fun ss => if szOk ss.length = true then mkl m ss else M.fail
theorem x_tup {k : Nat} (ha : PAX X E es Fs) : PX X E (.Tuple es k pos) (tupV Fs) := pe_weak (pe_tup ha) fun σ H Q ⟨W, ρ, μ, r, h, e, q⟩ => by
  refine tAr_bind h e q fun vs ss W1 H1 μ1 g1 h1 rs e1 q1 => ?_
  obtain ⟨c, e1⟩ := iff_ok e1
  exact ⟨by rw [rs.len]; exact szOk_line c, fun p hp => mkt_ok h1.rel hp rs e1 q1⟩
theorem x_lst (m : Bool) (ha : PAX X E es Fs) : PX X E (.List es pos) (lstV m Fs) := pe_weak (pe_lst ha) fun σ H Q ⟨W, ρ, μ, r, h, e, q⟩ => by
  refine tAr_bind h e q fun vs ss W1 H1 μ1 g1 h1 rs e1 q1 => ?_
  obtain ⟨c, e1⟩ := iff_ok e1
  exact ⟨by rw [rs.len]; exact szOk_line c, fun p hp => mkl_ok h1.rel hp rs e1 q1⟩

/-! ### a mutable list becomes data -/
def frz (s : Sv) : M Sv := fun μ => match s with
  | .dat d => some (.ok (.dat d) μ)
  | .ref t => match μ[t]? with
    | some (.lst xs) => (dats xs).map fun ds => .ok (.dat (.list ds)) (μ.set t .gone)
    | _ => none
  | _ => none
def frzV (Fa : Rho → M Sv) (ρ : Rho) : M Sv := (Fa ρ).bind frz
theorem frz_ok {K : PySem.W.Frag} {W : Wd} {H : Hp} {μ : Mu} {s : Sv} {v : V} {r : Res Sv} {Q : VK} (R : Rel K W H μ) (h : SvR K W μ.length v s) (e : frz s μ = some r) (q : KoV K E W H μ r Q) : Q v H := by
  cases s with
  | dat d =>
    cases e
    exact q _ _ (Grow.refl _ _ _) R _ h
  | ref t =>
    obtain ⟨_, rfl⟩ := h
    unfold frz at e
    cases q1 : μ[t]? with
    | none =>
      simp only [q1] at e
      cases e
    | some o =>
      cases o with
      | gone =>
        simp only [q1] at e
        cases e
      | lst xs =>
        simp only [q1] at e
        cases w : dats xs with
        | none =>
          rw [w] at e
          cases e
        | some ds =>
          rw [w] at e
          cases e
          obtain ⟨W', g, R', hd, he, hs⟩ := R.freeze q1 w
          exact q W' H (grow_freeze q1 g he hs) R' _ hd
  | scr ns => cases e
theorem x_frz (ha : PX X E a Fa) : PX X E a (frzV Fa) := pe_weak ha fun σ H Q ⟨W, ρ, μ, r, h, e, q⟩ => tX_bind h e q fun v s W1 H1 μ1 g1 h1 rs e1 q1 => frz_ok h1.rel rs e1 q1

/-! ### built-in calls by values -/
def rC (K : PySem.W.Frag) (E : XK) (op : List Sv → M Sv) : List V → Hp → VK → Prop := fun xs H Q => ∃ W μ ss r, Rel K W H μ ∧ SvRs K W μ.length xs ss ∧ op ss μ = some r ∧ KoV K E W H μ r Q
theorem callr_weak {f : Value} {r r' : List V → Hp → VK → Prop} (h : CallR X f r) (w : ∀ xs H Q, r' xs H Q → r xs H Q) : CallR X f r' := fun pins s σ H xs us Q I rv q => h pins s σ H xs us Q I rv (w _ _ _ q)
def callV (op : List Sv → M Sv) (Fs : Rho → M (List Sv)) (ρ : Rho) : M Sv := (Fs ρ).bind op
theorem callV_ent {K : PySem.W.Frag} {op : List Sv → M Sv} {σ : L2.St} {H : Hp} {Q : VK} (h : tX K E (callV op Fs) σ H Q) : tCB (rC K E op) (tAr K E Fs) σ H Q := by
  obtain ⟨W, ρ, μ, r, h, e, q⟩ := h
  exact tAr_bind h e q fun vs ss W1 H1 μ1 g1 h1 rs e1 q1 => ⟨W1, μ1, ss, r, h1.rel, rs, e1, q1⟩
theorem x_callB {id : String} {x : Str} {op : List Sv → M Sv} (hc : CallR X (.builtin id) (rC X.K E op)) (hg : Gl X x) (hm : X.mg x = none) (hv : bootBuiltins x = some (.builtin id)) (ha : PAX X E (e :: es) Fs) (hn : x ≠ "__name__" := by decide) (hdb : (x == ("__debug__" : Str)) = false := by decide)
    (he : starEach (e :: es) X.env = (false, eval e X.env) :: starEach es X.env := by rfl) (hpl : (backTo pos (starEach es X.env)).any (·.1) = false := by rfl) : PX X E (.Call (.Name x p) (e :: es) [] pos) (callV op Fs) :=
  pe_weak (pe_callB hc hg hm hv ha hn hdb he hpl) fun _ _ _ h => callV_ent h
theorem x_callTy {id : String} {x : Str} {op : List Sv → M Sv} (hc : CallR X (.type id) (rC X.K E op)) (hg : Gl X x) (hm : X.mg x = none) (hv : bootBuiltins x = some (.type id)) (ha : PAX X E (e :: es) Fs) (hn : x ≠ "__name__" := by decide) (hdb : (x == ("__debug__" : Str)) = false := by decide)
    (he : starEach (e :: es) X.env = (false, eval e X.env) :: starEach es X.env := by rfl) (hpl : (backTo pos (starEach es X.env)).any (·.1) = false := by rfl) : PX X E (.Call (.Name x p) (e :: es) [] pos) (callV op Fs) :=
  pe_weak (pe_callTy hc hg hm hv ha hn hdb he hpl) fun _ _ _ h => callV_ent h
theorem rels1 {K : PySem.W.Frag} {W : Wd} {n : Nat} {xs : List V} {s : Sv} (h : SvRs K W n xs [s]) : ∃ x, xs = [x] ∧ SvR K W n x s := by
  cases h with
  | cons h r =>
    cases r
    exact ⟨_, rfl, h⟩
theorem rels2 {K : PySem.W.Frag} {W : Wd} {n : Nat} {xs : List V} {s t : Sv} (h : SvRs K W n xs [s, t]) : ∃ x y, xs = [x, y] ∧ SvR K W n x s ∧ SvR K W n y t := by
  cases h with
  | cons h r =>
    obtain ⟨y, rfl, h2⟩ := rels1 r
    exact ⟨_, y, rfl, h, h2⟩
def bLen (ss : List Sv) : M Sv := match ss with
  | [.dat (.tuple ds)] => M.ret (.dat (.int ds.length))
  | [.dat (.str x)] => if szOk x.length = true then M.ret (.dat (.int x.length)) else M.fail
  | [s] => (lsOf s).bind fun xs => M.ret (.dat (.int xs.length))
  | _ => M.fail
theorem b_len : CallR X (.builtin "len") (rC X.K E bLen) := callr_weak call_len fun xs H Q ⟨W, μ, ss, r, R, rs, e, q⟩ => by
  unfold bLen at e
  split at e
  · cases e
    obtain ⟨x, rfl, h⟩ := rels1 rs
    cases h with
    | tup h1 r1 => exact ⟨_, _, rfl, .inr ⟨_, seqT_mono R.sub h1, rfl⟩, q _ _ (Grow.refl _ _ _) R _ (by rw [r1.len]; exact .int _)⟩
  · obtain ⟨c, e⟩ := iff_ok e
    cases e
    obtain ⟨x, rfl, h⟩ := rels1 rs
    cases h
    exact ⟨_, _, rfl, ⟨szOk_line c, rfl⟩, q _ _ (Grow.refl _ _ _) R _ (.int _)⟩
  · obtain ⟨x, rfl, h⟩ := rels1 rs
    obtain ⟨ys, e0, e⟩ := lsOf_bind e
    obtain ⟨p1, vs1, xs1, rfl, h1, r1, z⟩ := lsOf_rel R h e0
    cases z
    cases e
    exact ⟨_, _, rfl, .inl ⟨_, SqL.of h1, rfl⟩, q _ _ (Grow.refl _ _ _) R _ (by rw [r1.len]; exact .int _)⟩
  · cases e
def bAbs (ss : List Sv) : M Sv := match ss with
  | [.dat (.int i)] => M.ret (.dat (.int (if i < 0 then -i else i)))
  | _ => M.fail
theorem b_abs : CallR X (.builtin "abs") (rC X.K E bAbs) := callr_weak call_abs fun xs H Q ⟨W, μ, ss, r, R, rs, e, q⟩ => by
  unfold bAbs at e
  split at e
  · cases e
    obtain ⟨x, rfl, h⟩ := rels1 rs
    cases h
    exact ⟨_, rfl, q _ _ (Grow.refl _ _ _) R _ (.int _)⟩
  · cases e
def bMax2 (ss : List Sv) : M Sv := match ss with
  | [.dat (.int i), .dat (.int j)] => M.ret (.dat (.int (if j > i then j else i)))
  | _ => M.fail
def bMin2 (ss : List Sv) : M Sv := match ss with
  | [.dat (.int i), .dat (.int j)] => M.ret (.dat (.int (if j < i then j else i)))
  | _ => M.fail
theorem b_max2 (hc : X.calm = true := by rfl) : CallR X (.builtin "max") (rC X.K E bMax2) := callr_weak (call_max2 hc) fun xs H Q ⟨W, μ, ss, r, R, rs, e, q⟩ => by
  unfold bMax2 at e
  split at e
  · cases e
    obtain ⟨x, y, rfl, h, h2⟩ := rels2 rs
    cases h
    cases h2
    exact ⟨_, _, rfl, q _ _ (Grow.refl _ _ _) R _ (.int _)⟩
  · cases e
theorem b_min2 (hc : X.calm = true := by rfl) : CallR X (.builtin "min") (rC X.K E bMin2) := callr_weak (call_min2 hc) fun xs H Q ⟨W, μ, ss, r, R, rs, e, q⟩ => by
  unfold bMin2 at e
  split at e
  · cases e
    obtain ⟨x, y, rfl, h, h2⟩ := rels2 rs
    cases h
    cases h2
    exact ⟨_, _, rfl, q _ _ (Grow.refl _ _ _) R _ (.int _)⟩
  · cases e
/-- ints in a list of data -/
def asInts : List PyData → Option (List Int)
  | [] => some []
  | .int i :: r => (asInts r).map (i :: ·)
  | _ :: _ => none
theorem ints_rel {K : PySem.W.Frag} {H : Hp} : ∀ {vs : List V} {ds : List PyData} {ns : List Int}, Dqs K H vs ds → asInts ds = some ns → vs = ns.map V.int
  | _, [], _, .nil, e => by
    cases e
    rfl
  | _, .int i :: ds, _, .cons h r, e => by
    have e' : (asInts ds).map (i :: ·) = some _ := e
    cases q : asInts ds with
    | none =>
      rw [q] at e'
      cases e'
    | some z =>
      rw [q] at e'
      cases e'
      rw [ints_rel r q, dq_int h]
      rfl
  | _, .none :: _, _, .cons _ _, e => nomatch e
  | _, .bool _ :: _, _, .cons _ _, e => nomatch e
  | _, .str _ :: _, _, .cons _ _, e => nomatch e
  | _, .list _ :: _, _, .cons _ _, e => nomatch e
  | _, .tuple _ :: _, _, .cons _ _, e => nomatch e
  | _, .dict _ :: _, _, .cons _ _, e => nomatch e
theorem ints_map (ns : List Int) : asInts (ns.map PyData.int) = some ns := by
  induction ns with
  | nil => rfl
  | cons n ns ih =>
    show (asInts (ns.map PyData.int)).map (n :: ·) = _
    rw [ih]
    rfl
def bSum (ss : List Sv) : M Sv := match ss with
  | [s] => (rd s).bind fun d => match d with
    | .list ds => (orFail (asInts ds)).bind fun ns => M.ret (.dat (.int ns.sum))
    | _ => M.fail
  | _ => M.fail
theorem b_sum (hc : X.calm = true := by rfl) : CallR X (.builtin "sum") (rC X.K E bSum) := callr_weak (cr_sum hc) fun xs H Q ⟨W, μ, ss, r, R, rs, e, q⟩ => by
  unfold bSum at e
  split at e
  · obtain ⟨x, rfl, h⟩ := rels1 rs
    obtain ⟨d, e1, e⟩ := rd_bind e
    obtain ⟨d', z1, h1⟩ := rd_rel R h e1
    cases z1
    split at e
    · obtain ⟨ns, e2, e⟩ := orFail_some e
      cases e
      cases h1 with
      | lst h2 r2 =>
        have := ints_rel r2 e2
        subst this
        exact ⟨_, ns, rfl, SqL.of h2, q _ _ (Grow.refl _ _ _) R _ (.int _)⟩
    · cases e
  · cases e
def bTuple (ss : List Sv) : M Sv := match ss with
  | [.dat (.tuple ds)] => M.ret (.dat (.tuple ds))
  | [s] => (lsOf s).bind fun xs => mkt xs
  | _ => M.fail
theorem b_tuple : CallR X (.type "tuple") (rC X.K E bTuple) := callr_weak call_tuple_of fun xs H Q ⟨W, μ, ss, r, R, rs, e, q⟩ => by
  unfold bTuple at e
  split at e
  · cases e
    obtain ⟨x, rfl, h⟩ := rels1 rs
    have h0 := h
    cases h with
    | tup h1 r1 => exact ⟨_, _, rfl, .inr ⟨seqT_mono R.sub h1, q _ _ (Grow.refl _ _ _) R _ h0⟩⟩
  · obtain ⟨x, rfl, h⟩ := rels1 rs
    obtain ⟨ys, e0, e⟩ := lsOf_bind e
    obtain ⟨p1, vs1, xs1, rfl, h1, r1, z⟩ := lsOf_rel R h e0
    cases z
    exact ⟨_, _, rfl, .inl ⟨SqL.of h1, fun l hl => mkt_ok R hl r1 e q⟩⟩
  · cases e
def bList (m : Bool) (ss : List Sv) : M Sv := match ss with
  | [.dat (.tuple ds)] => mkl m (ds.map Sv.dat)
  | [s] => (lsOf s).bind fun xs => mkl m xs
  | _ => M.fail
theorem b_list {m : Bool} : CallR X (.type "list") (rC X.K E (bList m)) := callr_weak call_list_of fun xs H Q ⟨W, μ, ss, r, R, rs, e, q⟩ => by
  unfold bList at e
  split at e
  · obtain ⟨x, rfl, h⟩ := rels1 rs
    cases h with
    | tup h1 r1 => exact ⟨_, _, rfl, .inr (seqT_mono R.sub h1), fun l hl => mkl_ok R hl (rel_dats r1) e q⟩
  · obtain ⟨x, rfl, h⟩ := rels1 rs
    obtain ⟨ys, e0, e⟩ := lsOf_bind e
    obtain ⟨p1, vs1, xs1, rfl, h1, r1, z⟩ := lsOf_rel R h e0
    cases z
    exact ⟨_, _, rfl, .inl (SqL.of h1), fun l hl => mkl_ok R hl r1 e q⟩
  · cases e

/-! ### repr -/
def okShow (d : PyData) : Bool := d.showable && (!d.hasDict || bare d) && decide (d.depth ≤ 60) && szOk d.shown.length
def isRefD : PyData → Bool
  | .list _ => true
  | .tuple _ => true
  | .dict _ => true
  | _ => false
def bRepr (ss : List Sv) : M Sv := match ss with
  | [s] => (rd s).bind fun d => if okShow d = true then M.ret (.dat (.str d.shown)) else M.fail
  | _ => M.fail
theorem b_repr (hg : X.A.guards = some []) (hu : X.A.units + 64 < cLine) : CallR X (.builtin "repr") (rC X.K E bRepr) := by
  intro pins s σ H xs us Q I rv ⟨W, μ, ss, r, R, rs, e, q⟩
  unfold bRepr at e
  split at e
  · obtain ⟨x, rfl, h⟩ := rels1 rs
    obtain ⟨u, rfl, rx⟩ := vals1 rv
    obtain ⟨d, e1, e⟩ := rd_bind e
    obtain ⟨d', z1, h1⟩ := rd_rel R h e1
    cases z1
    obtain ⟨c, e⟩ := iff_ok e
    cases e
    obtain ⟨c, c4⟩ := Bool.and_eq_true_iff.mp c
    obtain ⟨c, c3⟩ := Bool.and_eq_true_iff.mp c
    obtain ⟨c1, c2⟩ := Bool.and_eq_true_iff.mp c
    have hd := of_decide_eq_true c3
    have done : ∀ h' t tk, (∀ b o, s.heap.get? b = some o → h'.get? b = some o) → EP X pins σ Q (.str d.shown t) { s with heap := h', toks := tk } := fun h' t tk k =>
      ⟨.str d.shown, H, I.kept k, ⟨t, rfl⟩, q _ _ (Grow.refl _ _ _) R _ (.str _)⟩
    obtain ⟨as, hr, hb⟩ := Dq.reads I h1 rx
    have hsm : d.hasDict = true → sysModules ∉ as := fun z => hb (by
      rcases Bool.or_eq_true_iff.mp c2 with z2 | z2
      · rw [z] at z2
        cases z2
      · exact z2)
    have line : d.shown.length ≤ sizeLine := szOk_line c4
    have refs : ∀ a, u = .ref a → wpAny (model X.prog X.w) X.A (call (.builtin "repr") [u]) (EP X pins σ Q) X.xe s := fun a ea => by
      subst ea
      exact repr_of_reads' hr c1 hsm hg (by omega) (fun _ _ z => z) (fun h' t tk k => done h' t tk k) line
    cases h1 with
    | non =>
      cases (show u = Value.none from rx)
      exact P.repr_of_none (done _ _ _ fun _ _ z => z)
    | bl b =>
      cases (show u = Value.bool b from rx)
      exact P.repr_of_bool (done _ _ _ fun _ _ z => z)
    | int i =>
      obtain ⟨t, rfl⟩ := rx
      exact P.repr_of_int (of_decide_eq_true (by simpa only [PyData.showable] using c1)) (done _ _ _ fun _ _ z => z)
    | str y =>
      obtain ⟨t, rfl⟩ := rx
      exact P.repr_of_str (done _ _ _ fun _ _ z => z) line
    | lst h2 r2 => exact refs _ rx
    | tup h2 r2 => exact refs _ rx
    | dct h2 r2 => exact refs _ rx
  · cases e
/-! ### isinstance -/
def tyN : Sv → String
  | .dat .none => "NoneType"
  | .dat (.bool _) => "bool"
  | .dat (.int _) => "int"
  | .dat (.str _) => "str"
  | .dat (.list _) => "list"
  | .dat (.tuple _) => "tuple"
  | .dat (.dict _) => "dict"
  | _ => "list"
def isi (n : String) (s : Sv) (μ : Mu) : Option (Res Sv) := match s, kitB (tyN s) n with
  | .dat _, some b => some (.ok (.dat (.bool b)) μ)
  | .ref t, some b => match μ[t]? with
    | some (.lst _) => some (.ok (.dat (.bool b)) μ)
    | _ => none
  | _, _ => none
theorem ty_rel {K : PySem.W.Frag} {H : Hp} {v : V} {d : PyData} (h : Dq K H v d) : TyX K H v (.type (tyN (.dat d))) := by
  cases h with
  | non => exact .base .non
  | bl b => exact .base (.bl b)
  | int i => exact .base (.int i)
  | str x => exact .base (.str x)
  | lst h r => exact .base (.lst h)
  | tup h r =>
    rcases h with (h | ⟨o, h⟩) | ⟨o, its, n, h, hc, _⟩
    · exact .base (.tup h)
    · exact .fTuple h
    · exact .kTuple h hc
  | dct h r => exact .base (.dK h)
def isiV (n : String) (Fa : Rho → M Sv) (ρ : Rho) : M Sv := (Fa ρ).bind (isi n)
theorem x_isi {x y : Str} {n : String} {p p2 pos : Pos} (hg : Gl X x) (hm : X.mg x = none) (hv : bootBuiltins x = some (.builtin "isinstance")) (hg2 : Gl X y) (hm2 : X.mg y = none) (hv2 : bootBuiltins y = some (.type n)) (ha : PX X E a Fa)
    (hn : x ≠ "__name__" := by decide) (hdb : (x == ("__debug__" : Str)) = false := by decide) (hn2 : y ≠ "__name__" := by decide) (hdb2 : (y == ("__debug__" : Str)) = false := by decide)
    (he : starEach [a, .Name y p2] X.env = (false, eval a X.env) :: starEach [.Name y p2] X.env := by rfl) (he2 : starEach [.Name y p2] X.env = (false, eval (.Name y p2) X.env) :: starEach [] X.env := by rfl) (hpl : (backTo pos (starEach [.Name y p2] X.env)).any (·.1) = false := by rfl) :
    PX X E (.Call (.Name x p) [a, .Name y p2] [] pos) (isiV n Fa) :=
  pe_weak (pe_callB call_isi hg hm hv (pa_cons ha (pa_cons (pe_bltn (v := .ty n) hg2 hm2 hv2 rfl hn2 hdb2) pa_nil he2) he) hn hdb he hpl) fun σ H Q ⟨W, ρ, μ, r, h, e, q⟩ => by
    refine tX_bind h e q fun v s W1 H1 μ1 g1 h1 rs e1 q1 => ?_
    unfold isi at e1
    split at e1
    · rename_i d b hk
      cases e1
      exact ⟨v, .ty n, _, _, b, rfl, .ty n, ty_rel (Dq.mono h1.rel.sub rs), kit_ty hk, q1 _ _ (Grow.refl _ _ _) h1.rel _ (.bl b)⟩
    · rename_i t b hk
      obtain ⟨_, rfl⟩ := rs
      split at e1
      · rename_i xs hx
        cases e1
        obtain ⟨vs, z, _⟩ := h1.rel.obj t _ hx
        exact ⟨_, .ty n, _, _, b, rfl, .ty n, .base (.lst z), kit_ty hk, q1 _ _ (Grow.refl _ _ _) h1.rel _ (.bl b)⟩
      · cases e1
    · cases e1
end
end Pf

namespace Pf
open PySem PySem.Spec PyProof.Rows L2

section
variable {X : Cx} {E : XK} {e a b c lo hi : Expr} {es : List Expr} {Fa Fb Fc : Rho → M Sv} {Fs : Rho → M (List Sv)} {pos p p2 : Pos}
/-! ### slices -/
def tPO (K : PySem.W.Frag) (E : XK) (F : Rho → M (Option Int)) : TO := fun σ H Q => ∃ W ρ μ r, Here K W σ H ρ μ ∧ F ρ μ = some r ∧ Ko K E W H μ r fun W' H' o μ' => Q o H'
abbrev POX (X : Cx) (E : XK) (e : Option Expr) (F : Rho → M (Option Int)) : Prop := PO X e (tPO X.K E F)
theorem po_weak {X : Cx} {e : Option Expr} {t t' : TO} (h : PO X e t) (w : ∀ σ H Q, t' σ H Q → t σ H Q) : PO X e t' := ⟨fun pins s σ H Q I q => h.run pins s σ H Q I (w _ _ _ q)⟩
def noPart (_ : Rho) : M (Option Int) := M.ret none
def asI (s : Sv) : M Int := match s with
  | .dat (.int i) => M.ret i
  | _ => M.fail
def aPart (F : Rho → M Sv) (ρ : Rho) : M (Option Int) := (F ρ).bind fun s => (asI s).bind fun i => M.ret (some i)
theorem asI_bind {α : Type} {s : Sv} {k : Int → M α} {μ : Mu} {r : Res α} (h : M.bind (asI s) k μ = some r) : ∃ i, s = .dat (.int i) ∧ k i μ = some r := by
  unfold asI at h
  split at h
  · exact ⟨_, rfl, h⟩
  · cases h
theorem o_none : POX X E none noPart := po_weak po_none fun σ H Q ⟨W, ρ, μ, r, h, e, q⟩ => by
  cases e
  exact q _ _ (Grow.refl _ _ _) h.rel
theorem o_some (h : PX X E a Fa) : POX X E (some a) (aPart Fa) := po_weak (po_some h) fun σ H Q ⟨W, ρ, μ, r, h, e, q⟩ => by
  refine tX_bind h e q fun v s W1 H1 μ1 g1 h1 rs e1 q1 => ?_
  obtain ⟨i, rfl, e1⟩ := asI_bind e1
  cases rs
  cases e1
  exact ⟨i, rfl, q1 _ _ (Grow.refl _ _ _) h1.rel⟩
theorem tPO_bind {α : Type} {K : PySem.W.Frag} {W : Wd} {σ : L2.St} {H : Hp} {ρ : Rho} {μ : Mu} {F : Rho → M (Option Int)} {k : Option Int → M α} {r : Res α} {P : Wd → Hp → α → Mu → Prop} {Q : Option Int → Hp → Prop} (h : Here K W σ H ρ μ) (e : M.bind (F ρ) k μ = some r) (q : Ko K E W H μ r P)
    (step : ∀ b W1 H1 μ1, Grow W H μ W1 H1 μ1 → Here K W1 σ H1 ρ μ1 → k b μ1 = some r → Ko K E W1 H1 μ1 r P → Q b H1) : tPO K E F σ H Q := by
  rcases bind_some e with ⟨a, μ1, e1, e2⟩ | ⟨c, μ1, e1, rfl⟩
  · exact ⟨W, ρ, μ, _, h, e1, fun W1 H1 g R => step a W1 H1 μ1 g (h.next g R) e2 (q.later g)⟩
  · exact ⟨W, ρ, μ, _, h, e1, q⟩
def cutL {α : Type} (xs : List α) (lo hi : Option Int) : List α := (xs.drop (HT.sIx xs.length 0 lo)).take (HT.sIx xs.length xs.length hi - HT.sIx xs.length 0 lo)
def pSl (m : Bool) (s : Sv) (lo hi : Option Int) : M Sv := match s with
  | .dat (.tuple ds) => M.ret (.dat (.tuple (cutL ds lo hi)))
  | .dat (.str z) => if szOk z.length = true then M.ret (.dat (.str (cutS z lo hi))) else M.fail
  | .scr ns => mkl m ((cutL ns lo hi).map fun n => .dat (.int n))
  | s => (lsOf s).bind fun xs => mkl m (cutL xs lo hi)
theorem int_rels {K : PySem.W.Frag} {W : Wd} {n : Nat} : ∀ ns : List Int, SvRs K W n (ns.map V.int) (ns.map fun i => .dat (.int i))
  | [] => .nil
  | i :: r => .cons (.int i) (int_rels r)
theorem cut_map (ns : List Int) (lo hi : Option Int) : cutV (ns.map V.int) lo hi = (cutL ns lo hi).map V.int := by
  unfold cutV cutL
  rw [List.length_map, List.map_take, List.map_drop]
theorem cut_whole {α : Type} {xs : List α} {lo hi : Option Int} (h : HT.sIx xs.length 0 lo = 0 ∧ HT.sIx xs.length xs.length hi = xs.length) : cutL xs lo hi = xs := by
  unfold cutL
  rw [h.1, h.2, List.drop_zero, Nat.sub_zero, List.take_length]
theorem cut_rel {K : PySem.W.Frag} {H : Hp} {vs : List V} {ds : List PyData} {lo hi : Option Int} (h : Dqs K H vs ds) : Dqs K H (cutV vs lo hi) (cutL ds lo hi) := by
  unfold cutV cutL
  rw [h.len]
  exact (h.drop _).take _
theorem rels_take {K : PySem.W.Frag} {W : Wd} {n : Nat} : ∀ {v : List V} {x : List Sv} (k : Nat), SvRs K W n v x → SvRs K W n (v.take k) (x.take k)
  | _, _, 0, _ => .nil
  | _, _, _ + 1, .nil => .nil
  | _, _, k + 1, .cons r t => .cons r (rels_take k t)
theorem rels_drop {K : PySem.W.Frag} {W : Wd} {n : Nat} : ∀ {v : List V} {x : List Sv} (k : Nat), SvRs K W n v x → SvRs K W n (v.drop k) (x.drop k)
  | _, _, 0, r => r
  | _, _, _ + 1, .nil => .nil
  | _, _, k + 1, .cons _ t => rels_drop k t
theorem rels_rev {K : PySem.W.Frag} {W : Wd} {n : Nat} : ∀ {v : List V} {x : List Sv}, SvRs K W n v x → SvRs K W n v.reverse x.reverse
  | _, _, .nil => .nil
  | _, _, .cons h r => by
    rw [List.reverse_cons, List.reverse_cons]
    exact (rels_rev r).append (.cons h .nil)
theorem cut_rels {K : PySem.W.Frag} {W : Wd} {n : Nat} {vs : List V} {xs : List Sv} {lo hi : Option Int} (h : SvRs K W n vs xs) : SvRs K W n (cutV vs lo hi) (cutL xs lo hi) := by
  unfold cutV cutL
  rw [h.len]
  exact rels_take _ (rels_drop _ h)
def slV (m : Bool) (Fa : Rho → M Sv) (Fl Fh : Rho → M (Option Int)) (ρ : Rho) : M Sv := (Fa ρ).bind fun s => (Fl ρ).bind fun lo => (Fh ρ).bind fun hi => pSl m s lo hi
theorem x_slice (m : Bool) {lo hi : Option Expr} {Fl Fh : Rho → M (Option Int)} (he : PX X E a Fa) (hl : POX X E lo Fl) (hu : POX X E hi Fh) : PX X E (.Subscript a (.Slice lo hi none p2) pos) (slV m Fa Fl Fh) :=
  pe_weak (pe_slice ((sl_tupA (X := X)).or (sl_str.or sl_list)) he hl hu) fun σ H Q ⟨W, ρ, μ, r, h, e, q⟩ => by
    refine tX_bind h e q fun v s W1 H1 μ1 g1 h1 rs e1 q1 => tPO_bind h1 e1 q1 fun lo W2 H2 μ2 g2 h2 e2 q2 => tPO_bind h2 e2 q2 fun hi W3 H3 μ3 g3 h3 e3 q3 => ?_
    have rs' := (rs.grow g2).grow g3
    unfold pSl at e3
    split at e3
    · cases e3
      cases rs' with
      | tup h4 r4 =>
        refine .inl ⟨_, _, rfl, seqT_mono h3.rel.sub h4, fun z => ?_, fun z p hp => ?_⟩
        · rw [r4.len] at z
          rw [cut_whole z] at q3
          exact q3 _ _ (Grow.refl _ _ _) h3.rel _ (.tup h4 r4)
        · exact dq_tup h3.rel hp (cut_rel r4) rfl q3
    · obtain ⟨c, e3⟩ := iff_ok e3
      cases e3
      cases rs'
      exact .inr (.inl ⟨_, rfl, szOk_line c, q3 _ _ (Grow.refl _ _ _) h3.rel _ (.str _)⟩)
    · obtain ⟨a, rfl, ha⟩ := rs'
      refine .inr (.inr ⟨_, _, rfl, h3.rel.sub.seq ha, fun p hp => ?_⟩)
      rw [cut_map]
      exact mkl_ok h3.rel hp (int_rels _) e3 q3
    · obtain ⟨xs, e4, e3⟩ := lsOf_bind e3
      obtain ⟨p1, vs1, xs1, rfl, h4, r4, z⟩ := lsOf_rel h3.rel rs' e4
      cases z
      exact .inr (.inr ⟨_, _, rfl, SqL.of h4, fun p hp => mkl_ok h3.rel hp (cut_rels r4) e3 q3⟩)
def revV (m : Bool) (Fa : Rho → M Sv) (ρ : Rho) : M Sv := (Fa ρ).bind fun s => (lsOf s).bind fun xs => mkl m xs.reverse
theorem x_revL (m : Bool) {k : Nat} {p1 p3 : Pos} (he : PX X E a Fa) : PX X E (.Subscript a (.Slice none none (some (.UnaryOp .USub (.Constant (.int 1) k p1) p2)) p3) pos) (revV m Fa) := pe_weak (pe_revL he) fun σ H Q ⟨W, ρ, μ, r, h, e, q⟩ => by
  refine tX_bind h e q fun v s W1 H1 μ1 g1 h1 rs e1 q1 => ?_
  obtain ⟨xs, e4, e3⟩ := lsOf_bind e1
  obtain ⟨p1, vs1, xs1, rfl, h4, r4, z⟩ := lsOf_rel h1.rel rs e4
  cases z
  exact ⟨_, _, rfl, SqL.of h4, fun p hp => mkl_ok h1.rel hp (rels_rev r4) e3 q1⟩
theorem x_neg (ha : PX X E a Fa) : PX X E (.UnaryOp .USub a pos) (fun ρ => (Fa ρ).bind fun s => (asI s).bind fun i => M.ret (.dat (.int (-i)))) := pe_weak (pe_un un_neg ha) fun σ H Q ⟨W, ρ, μ, r, h, e, q⟩ => by
  refine tX_bind h e q fun v s W1 H1 μ1 g1 h1 rs e1 q1 => ?_
  obtain ⟨i, rfl, e1⟩ := asI_bind e1
  cases rs
  cases e1
  exact ⟨i, rfl, q1 _ _ (Grow.refl _ _ _) h1.rel _ (.int _)⟩

/-! ### xs.append(e), xs.pop() on tagged lists -/
def wrt (t : Nat) (xs : List Sv) : M PUnit := fun μ => some (.ok ⟨⟩ (μ.set t (.lst xs)))
def tagOf (s : Sv) : M (Nat × List Sv) := fun μ => match s with
  | .ref t => match μ[t]? with
    | some (.lst xs) => some (.ok (t, xs) μ)
    | _ => none
  | _ => none
theorem tag_bind {α : Type} {s : Sv} {k : Nat × List Sv → M α} {μ : Mu} {r : Res α} (h : M.bind (tagOf s) k μ = some r) : ∃ t xs, s = .ref t ∧ μ[t]? = some (.lst xs) ∧ k (t, xs) μ = some r := by
  cases s with
  | dat d => cases h
  | scr d => cases h
  | ref t =>
    cases q : μ[t]? with
    | none =>
      unfold M.bind tagOf at h
      simp only [q] at h
      cases h
    | some o =>
      cases o with
      | gone =>
        unfold M.bind tagOf at h
        simp only [q] at h
        cases h
      | lst xs =>
        unfold M.bind tagOf at h
        simp only [q] at h
        exact ⟨t, xs, rfl, q, h⟩
theorem write_rel {α : Type} {K : PySem.W.Frag} {W : Wd} {H : Hp} {μ : Mu} {t : Nat} {ys xs : List Sv} {vs : List V} {k : PUnit → M α} {r : Res α} (R : Rel K W H μ) (e : μ[t]? = some (.lst ys)) (h : SvRs K W μ.length vs xs) (e2 : M.bind (wrt t xs) k μ = some r) :
    Rel K W (upd H (W.η t) (.lst vs)) (μ.set t (.lst xs)) ∧ Grow W H μ W (upd H (W.η t) (.lst vs)) (μ.set t (.lst xs)) ∧ k ⟨⟩ (μ.set t (.lst xs)) = some r :=
  ⟨R.write e h, grow_write e, e2⟩
def appV (Fa : Rho → M Sv) (Fb : Rho → M Sv) (ρ : Rho) : M Sv := (Fa ρ).bind fun o => (tagOf o).bind fun _ => (Fb ρ).bind fun x => (tagOf o).bind fun z => if szOk (z.2.length + 1) = true then (wrt z.1 (z.2 ++ [x])).bind fun _ => M.ret (.dat .none) else M.fail
theorem x_append {apos : Pos} (ho : PX X E a Fa) (hb : PX X E b Fb)
    (hbase : attributeBase a "append" X.env (eval a X.env) = eval a X.env := by rfl)
    (hfew : ((backTo pos (starEach [b] X.env)).all (fun x => !x.1) && (backToKw pos (keywordEach [] X.env)).all (fun x => x.1.isSome) && decide (([b] : List Expr).length + ([] : List Keyword).length + (if ([] : List Keyword).isEmpty then 0 else 1) < 30)) = true := by rfl)
    (hline : (apos.endLine == pos.line) = true := by rfl) (hs : starEach [b] X.env = (false, eval b X.env) :: starEach [] X.env := by rfl) (hplain : (backTo pos (starEach [] X.env)).any (·.1) = false := by rfl) :
    PX X E (.Call (.Attribute a "append" apos) [b] [] pos) (appV Fa Fb) :=
  pe_weak (pe_bm PySem.F.plainAttrs_list PySem.F.slot_list_append PySem.F.type_list_append mt_append ho (pa_cons hb pa_nil hs) hbase hfew hline hs hplain) fun σ H Q ⟨W, ρ, μ, r, h, e, q⟩ => by
    refine tX_bind h e q fun v o W1 H1 μ1 g1 h1 ro e1 q1 => ?_
    obtain ⟨t, xs, rfl, et, e1⟩ := tag_bind e1
    obtain ⟨ht, rfl⟩ := ro
    obtain ⟨vs, z1, z2⟩ := h1.rel.obj t _ et
    refine ⟨.inl ⟨rfl, vs, SqL.of z1⟩, ?_⟩
    refine tX_bind h1 e1 q1 fun u x W2 H2 μ2 g2 h2 rx e2 q2 => ?_
    obtain ⟨t', ys, te, et2, e2⟩ := tag_bind e2
    cases te
    obtain ⟨us, y1, y2⟩ := h2.rel.obj t _ et2
    obtain ⟨c, e2⟩ := iff_ok e2
    have ra : SvRs X.K W2 μ2.length (us ++ [u]) (ys ++ [x]) := y2.append (.cons rx .nil)
    obtain ⟨R3, g3, e3⟩ := write_rel h2.rel et2 ra e2
    cases e3
    refine ⟨W1.η t, us, u, rfl, rfl, ?_, ?_, ?_⟩
    · rw [← g2.at_ t ht]
      exact y1
    · rw [y2.len]
      have : ys.length + 1 < sizeLine := szOk_lt c
      omega
    · rw [← g2.at_ t ht]
      exact q2 _ _ g3 R3 _ .non
theorem drop_rels {K : PySem.W.Frag} {W : Wd} {n : Nat} : ∀ {v : List V} {x : List Sv}, SvRs K W n v x → SvRs K W n v.dropLast x.dropLast
  | _, _, .nil => .nil
  | _, _, .cons h .nil => .nil
  | _, _, .cons h (.cons h2 r) => .cons h (drop_rels (.cons h2 r))
def popV (Fa : Rho → M Sv) (ρ : Rho) : M Sv := (Fa ρ).bind fun o => (tagOf o).bind fun z => (orFail (z.2[z.2.length - 1]?)).bind fun x => (wrt z.1 z.2.dropLast).bind fun _ => M.ret x
theorem x_pop {apos : Pos} (ho : PX X E a Fa) (hbase : attributeBase a "pop" X.env (eval a X.env) = eval a X.env := by rfl) (hline : (apos.endLine == pos.line) = true := by rfl) : PX X E (.Call (.Attribute a "pop" apos) [] [] pos) (popV Fa) :=
  pe_weak (pe_bm0 PySem.F.plainAttrs_list PySem.F.slot_list_pop PySem.F.type_list_pop mt_pop ho hbase hline) fun σ H Q ⟨W, ρ, μ, r, h, e, q⟩ => by
    refine tX_bind h e q fun v o W1 H1 μ1 g1 h1 ro e1 q1 => ?_
    obtain ⟨t, xs, rfl, et, e1⟩ := tag_bind e1
    obtain ⟨ht, rfl⟩ := ro
    obtain ⟨vs, z1, z2⟩ := h1.rel.obj t _ et
    obtain ⟨x, ex, e1⟩ := orFail_some e1
    refine ⟨.inl ⟨rfl, vs, SqL.of z1⟩, ?_⟩
    obtain ⟨u, a1, a2⟩ := z2.get ex
    obtain ⟨R3, g3, e3⟩ := write_rel h1.rel et (drop_rels z2) e1
    cases e3
    refine ⟨W1.η t, vs, u, rfl, rfl, z1, ?_, q1 _ _ g3 R3 _ (a2.grow g3)⟩
    rw [z2.len]
    exact a1
end

/-! ### statements -/
inductive Out where
  | nx (ρ : Rho)
  | rt (s : Sv)
  | bk (ρ : Rho)
  | ct (ρ : Rho)
def OutOk (K : PySem.W.Frag) (D : Ends) (W : Wd) (H : Hp) (o : Out) (μ : Mu) : Prop := match o with
  | .nx ρ => ∀ σ, Sls K W μ.length σ ρ → D.nx σ H
  | .rt s => ∀ v, SvR K W μ.length v s → D.rt v H
  | .bk ρ => ∀ σ, Sls K W μ.length σ ρ → D.bk σ H
  | .ct ρ => ∀ σ, Sls K W μ.length σ ρ → D.ct σ H
def tG (K : PySem.W.Frag) (E : XK) (G : Rho → M Out) : TS := fun D σ H => ∃ W ρ μ r, Here K W σ H ρ μ ∧ G ρ μ = some r ∧ Ko K E W H μ r (OutOk K D)
abbrev PSX (X : Cx) (E : XK) (st : Stmt) (G : Rho → M Out) : Prop := PS X st (tG X.K E G)
abbrev PSSX (X : Cx) (E : XK) (st : List Stmt) (G : Rho → M Out) : Prop := PSs X st (tG X.K E G)
section
variable {X : Cx} {E : XK} {e a b c : Expr} {Fa Fb Fc : Rho → M Sv} {G G' : Rho → M Out} {st : Stmt} {rest body : List Stmt} {pos p : Pos}
theorem tG_bind {α : Type} {K : PySem.W.Frag} {W : Wd} {σ : L2.St} {H : Hp} {ρ : Rho} {μ : Mu} {k : Out → M α} {r : Res α} {P : Wd → Hp → α → Mu → Prop} {D : Ends} (h : Here K W σ H ρ μ) (e : M.bind (G ρ) k μ = some r) (q : Ko K E W H μ r P)
    (step : ∀ o W1 H1 μ1, Grow W H μ W1 H1 μ1 → Rel K W1 H1 μ1 → k o μ1 = some r → Ko K E W1 H1 μ1 r P → OutOk K D W1 H1 o μ1) : tG K E G D σ H := by
  rcases bind_some e with ⟨a, μ1, e1, e2⟩ | ⟨c, μ1, e1, rfl⟩
  · exact ⟨W, ρ, μ, _, h, e1, fun W1 H1 g R => step a W1 H1 μ1 g R e2 (q.later g)⟩
  · exact ⟨W, ρ, μ, _, h, e1, q⟩
def gSkip (ρ : Rho) : M Out := M.ret (.nx ρ)
def gSeq (G G' : Rho → M Out) (ρ : Rho) : M Out := (G ρ).bind fun o => match o with
  | .nx ρ' => G' ρ'
  | o => M.ret o
theorem q_nil : PSSX X E [] gSkip := pss_weak pss_nil fun D σ H ⟨W, ρ, μ, r, h, e, q⟩ => by
  cases e
  exact q _ _ (Grow.refl _ _ _) h.rel _ h.sl
theorem q_one (h : PSX X E st G) : PSSX X E [st] G := pss_one h
theorem q_cons (h : PSX X E st G) (h2 : PSSX X E rest G') : PSSX X E (st :: rest) (gSeq G G') := pss_weak (pss_cons h h2) fun D σ H ⟨W, ρ, μ, r, h, e, q⟩ => by
  refine tG_bind h e q fun o W1 H1 μ1 g R e1 q1 => ?_
  cases o with
  | nx ρ' => exact fun σ' s' => ⟨W1, ρ', μ1, r, ⟨R, s'⟩, e1, q1⟩
  | rt s =>
    cases e1
    exact q1 _ _ (Grow.refl _ _ _) R
  | bk ρ' =>
    cases e1
    exact q1 _ _ (Grow.refl _ _ _) R
  | ct ρ' =>
    cases e1
    exact q1 _ _ (Grow.refl _ _ _) R
theorem s_pass : PSX X E (.Pass pos) gSkip := ps_weak ps_pass fun D σ H ⟨W, ρ, μ, r, h, e, q⟩ => by
  cases e
  exact q _ _ (Grow.refl _ _ _) h.rel _ h.sl
theorem s_doc {x : Str} {j pos pos'} : PSX X E (.Expr (.Constant (.str x) j pos) pos') gSkip := ps_weak ps_doc fun D σ H ⟨W, ρ, μ, r, h, e, q⟩ => by
  cases e
  exact q _ _ (Grow.refl _ _ _) h.rel _ h.sl
theorem s_break : PSX X E (.Break pos) (fun ρ => M.ret (.bk ρ)) := ps_weak ps_break fun D σ H ⟨W, ρ, μ, r, h, e, q⟩ => by
  cases e
  exact q _ _ (Grow.refl _ _ _) h.rel _ h.sl
theorem s_continue : PSX X E (.Continue pos) (fun ρ => M.ret (.ct ρ)) := ps_weak ps_continue fun D σ H ⟨W, ρ, μ, r, h, e, q⟩ => by
  cases e
  exact q _ _ (Grow.refl _ _ _) h.rel _ h.sl
def gExpr (Fa : Rho → M Sv) (ρ : Rho) : M Out := (Fa ρ).bind fun _ => M.ret (.nx ρ)
theorem s_expr (ha : PX X E a Fa) (hs : swapsWith a none pos.line X.env = pure false := by rfl) : PSX X E (.Expr a pos) (gExpr Fa) := ps_weak (ps_expr ha hs) fun D σ H ⟨W, ρ, μ, r, h, e, q⟩ => by
  refine tX_bind h e q fun v s W1 H1 μ1 g1 h1 rs e1 q1 => ?_
  cases e1
  exact q1 _ _ (Grow.refl _ _ _) h1.rel _ h1.sl
def gRet (Fa : Rho → M Sv) (ρ : Rho) : M Out := (Fa ρ).bind fun s => M.ret (.rt s)
theorem s_ret (ha : PX X E a Fa) : PSX X E (.Return (some a) pos) (gRet Fa) := ps_weak (ps_ret ha) fun D σ H ⟨W, ρ, μ, r, h, e, q⟩ => by
  refine tX_bind h e q fun v s W1 H1 μ1 g1 h1 rs e1 q1 => ?_
  cases e1
  exact q1 _ _ (Grow.refl _ _ _) h1.rel _ rs
theorem s_retN : PSX X E (.Return none pos) (fun _ => M.ret (.rt (.dat .none))) := ps_weak ps_retN fun D σ H ⟨W, ρ, μ, r, h, e, q⟩ => by
  cases e
  exact q _ _ (Grow.refl _ _ _) h.rel _ .non
def gIf (F : Rho → M Bool) (G G' : Rho → M Out) (ρ : Rho) : M Out := (F ρ).bind fun k => if k = true then G ρ else G' ρ
theorem s_if {F : Rho → M Bool} {els : List Stmt} (hc : PTX X E c F) (ha : PSSX X E body G) (hb : PSSX X E els G') : PSX X E (.If c body els pos) (gIf F G G') := ps_weak (ps_if hc ha hb) fun D σ H ⟨W, ρ, μ, r, h, e, q⟩ => by
  refine tT_bind h e q fun k W1 H1 μ1 g1 h1 e1 q1 => ?_
  cases k with
  | false =>
    rw [if_neg Bool.false_ne_true] at e1 ⊢
    exact ⟨W1, ρ, μ1, r, h1, e1, q1⟩
  | true =>
    rw [if_pos rfl] at e1 ⊢
    exact ⟨W1, ρ, μ1, r, h1, e1, q1⟩
/-! targets -/
def tP (K : PySem.W.Frag) (E : XK) (T : Sv → Rho → M Rho) : TG := fun v σ H Q => ∃ W ρ μ s r, Here K W σ H ρ μ ∧ SvR K W μ.length v s ∧ T s ρ μ = some r ∧ Ko K E W H μ r fun W' H' ρ' μ' => ∀ σ', Sls K W' μ'.length σ' ρ' → Q σ' H'
def tPs (K : PySem.W.Frag) (E : XK) (T : List Sv → Rho → M Rho) : TGs := fun v σ H Q => ∃ W ρ μ s r, Here K W σ H ρ μ ∧ SvRs K W μ.length v s ∧ T s ρ μ = some r ∧ Ko K E W H μ r fun W' H' ρ' μ' => ∀ σ', Sls K W' μ'.length σ' ρ' → Q σ' H'
abbrev PGX (X : Cx) (E : XK) (tg : Expr) (T : Sv → Rho → M Rho) : Prop := PG X tg (tP X.K E T)
abbrev PGsX (X : Cx) (E : XK) (tg : List Expr) (T : List Sv → Rho → M Rho) : Prop := PGs X tg (tPs X.K E T)
theorem pg_weak {X : Cx} {tg : Expr} {t t' : TG} (h : PG X tg t) (w : ∀ v σ H Q, t' v σ H Q → t v σ H Q) : PG X tg t' := ⟨fun pins s σ H v u Q I r q => h.run pins s σ H v u Q I r (w _ _ _ _ q)⟩
theorem pgs_weak {X : Cx} {tg : List Expr} {t t' : TGs} (h : PGs X tg t) (w : ∀ v σ H Q, t' v σ H Q → t v σ H Q) : PGs X tg t' := ⟨fun pins s σ H v u Q I r q => h.run pins s σ H v u Q I r (w _ _ _ _ q)⟩
def gNm (i : Nat) (s : Sv) (ρ : Rho) : M Rho := M.ret (ρ.set i (some s))
theorem pg_nm (i : Nat) {x : Str} (hN : X.N.Nodup) (hi : X.N[i]? = some x := by rfl) (hx : Loc X.env.scope x := by first | exact Or.inl rfl | exact Or.inr rfl) (hf : X.fn x = true ∨ X.env.scope.names.lookup x = some .local := by first | exact .inl rfl | exact .inr rfl) : PGX X E (.Name x pos) (gNm i) :=
  pg_weak (pg_name hN hi hx hf) fun v σ H Q ⟨W, ρ, μ, s, r, h, rs, e, q⟩ => by
    cases e
    exact q _ _ (Grow.refl _ _ _) h.rel _ (h.sl.set i rs)
def gsNil (ss : List Sv) (ρ : Rho) : M Rho := match ss with
  | [] => M.ret ρ
  | _ => M.fail
def gsCons (T : Sv → Rho → M Rho) (U : List Sv → Rho → M Rho) (ss : List Sv) (ρ : Rho) : M Rho := match ss with
  | s :: r => (T s ρ).bind fun ρ' => U r ρ'
  | _ => M.fail
theorem pgs_0 : PGsX X E [] gsNil := pgs_weak pgs_nil fun v σ H Q ⟨W, ρ, μ, s, r, h, rs, e, q⟩ => by
  unfold gsNil at e
  split at e
  · cases e
    cases rs
    exact ⟨rfl, q _ _ (Grow.refl _ _ _) h.rel _ h.sl⟩
  · cases e
theorem pgs_c {t : Expr} {ts : List Expr} {T : Sv → Rho → M Rho} {U : List Sv → Rho → M Rho} (h1 : PGX X E t T) (h2 : PGsX X E ts U) (hs : (assignEach (t :: ts) X.env).map (·.2) = assign t X.env :: (assignEach ts X.env).map (·.2) := by rfl) : PGsX X E (t :: ts) (gsCons T U) := pgs_weak (pgs_cons h1 h2 hs) fun v σ H Q ⟨W, ρ, μ, s, r, h, rs, e, q⟩ => by
  unfold gsCons at e
  split at e
  · cases rs with
    | cons r1 r2 =>
      refine ⟨_, _, rfl, ?_⟩
      rcases bind_some e with ⟨ρ', μ1, e1, e2⟩ | ⟨c, μ1, e1, rfl⟩
      · exact ⟨W, ρ, μ, _, _, h, r1, e1, fun W1 H1 g R σ1 s1 => ⟨W1, ρ', μ1, _, _, ⟨R, s1⟩, SvRs.grow g r2, e2, q.later g⟩⟩
      · exact ⟨W, ρ, μ, _, _, h, r1, e1, q⟩
  · cases e
def gTp (n : Nat) (U : List Sv → Rho → M Rho) (s : Sv) (ρ : Rho) : M Rho := match s with
  | .dat (.tuple ds) => if decide (ds.length = n) = true then U (ds.map Sv.dat) ρ else M.fail
  | _ => M.fail
theorem pg_tp {ts : List Expr} {U : List Sv → Rho → M Rho} {k : Nat} (n : Nat) (hc : X.calm = true) (h : PGsX X E ts U) (hn : (assignEach ts X.env).length = n := by rfl) (hst : (assignEach ts X.env).findIdx? (·.1) = none := by rfl) : PGX X E (.Tuple ts k pos) (gTp n U) := by
  refine pg_weak (pg_tup hc h hn hst) fun v σ H Q ⟨W, ρ, μ, s, r, h, rs, e, q⟩ => ?_
  unfold gTp at e
  split at e
  · obtain ⟨c, e⟩ := iff_ok e
    cases rs with
    | tup h1 r1 => exact ⟨_, _, rfl, seqT_mono h.rel.sub h1, by rw [r1.len]; exact of_decide_eq_true c, W, ρ, μ, _, r, h, rel_dats r1, e, q⟩
  · cases e
/-- xs[i] = v, xs a tagged list -/
def gSt (Fa Fb : Rho → M Sv) (s : Sv) (ρ : Rho) : M Rho := (Fa ρ).bind fun o => (Fb ρ).bind fun i => (asI i).bind fun k => (tagOf o).bind fun z => (orFail (ixN z.2.length k)).bind fun j => (wrt z.1 (z.2.set j s)).bind fun _ => M.ret ρ
theorem pg_st {o i : Expr} (ho : PX X E o Fa) (hi : PX X E i Fb) (hP : PG X (.Subscript o i pos) (gSub (tX X.K E Fa) (tX X.K E Fb) rSetL)) : PGX X E (.Subscript o i pos) (gSt Fa Fb) := pg_weak hP fun v σ H Q ⟨W, ρ, μ, s, r, h, rs, e, q⟩ => by
  refine tX_bind h e q fun u o W1 H1 μ1 g1 h1 ro e1 q1 => tX_bind h1 e1 q1 fun w i W2 H2 μ2 g2 h2 ri e2 q2 => ?_
  obtain ⟨k, rfl, e2⟩ := asI_bind e2
  cases ri
  obtain ⟨t, xs, rfl, et, e2⟩ := tag_bind e2
  obtain ⟨_, rfl⟩ := ro.grow g2
  obtain ⟨j, ej, e2⟩ := orFail_some e2
  obtain ⟨vs, z1, z2⟩ := h2.rel.obj t _ et
  obtain ⟨R3, g3, e3⟩ := write_rel h2.rel et (z2.set ((rs.grow g1).grow g2) j) e2
  cases e3
  exact ⟨_, vs, k, j, rfl, rfl, z1, by rw [z2.len]; exact ej, q2 _ _ g3 R3 _ (h2.sl.grow g3)⟩
def gAsg (Fa : Rho → M Sv) (T : Sv → Rho → M Rho) (ρ : Rho) : M Out := (Fa ρ).bind fun s => (T s ρ).bind fun ρ' => M.ret (.nx ρ')
theorem asg_ent {K : PySem.W.Frag} {W : Wd} {σ : L2.St} {H : Hp} {ρ : Rho} {μ : Mu} {T : Sv → Rho → M Rho} {s : Sv} {v : V} {r : Res Out} {D : Ends} (h : Here K W σ H ρ μ) (rs : SvR K W μ.length v s) (e : M.bind (T s ρ) (fun ρ' => M.ret (.nx ρ')) μ = some r) (q : Ko K E W H μ r (OutOk K D)) :
    tP K E T v σ H D.nx := by
  rcases bind_some e with ⟨ρ', μ1, e1, e2⟩ | ⟨c, μ1, e1, rfl⟩
  · cases e2
    exact ⟨W, ρ, μ, s, _, h, rs, e1, fun W1 H1 g R => q W1 H1 g R⟩
  · exact ⟨W, ρ, μ, s, _, h, rs, e1, q⟩
theorem s_asg {tg : Expr} {T : Sv → Rho → M Rho} (ha : PX X E a Fa) (hg : PGX X E tg T) (hs : swapsWithSole [tg] a pos.line X.env = pure false := by rfl) (hw : swappedStores [tg] a X.env = pure none := by rfl) (h1 : (assignEach [tg] X.env).map (·.2) = [assign tg X.env] := by rfl) : PSX X E (.Assign [tg] a pos) (gAsg Fa T) :=
  ps_weak (ps_asg ha hg hs hw h1) fun D σ H ⟨W, ρ, μ, r, h, e, q⟩ => tX_bind h e q fun v s W1 H1 μ1 g1 h1 rs e1 q1 => asg_ent h1 rs e1 q1
def gSet (i : Nat) (Fa : Rho → M Sv) (ρ : Rho) : M Out := (Fa ρ).bind fun s => M.ret (.nx (ρ.set i (some s)))
theorem s_set (i : Nat) {x : Str} {pos' : Pos} (hN : X.N.Nodup) (ha : PX X E a Fa) (hi : X.N[i]? = some x := by rfl) (hx : Loc X.env.scope x := by first | exact Or.inl rfl | exact Or.inr rfl) (hs : swapsWith a (some (.Name x pos')) pos.line X.env = pure false := by rfl)
    (hf : X.fn x = true ∨ X.env.scope.names.lookup x = some .local := by first | exact .inl rfl | exact .inr rfl) : PSX X E (.Assign [.Name x pos'] a pos) (gSet i Fa) := ps_weak (ps_set hN hi hx ha hs hf) fun D σ H ⟨W, ρ, μ, r, h, e, q⟩ => by
  refine tX_bind h e q fun v s W1 H1 μ1 g1 h1 rs e1 q1 => ?_
  cases e1
  exact q1 _ _ (Grow.refl _ _ _) h1.rel _ (h1.sl.set i rs)
def gPar (i j : Nat) (Fs : Rho → M (List Sv)) (ρ : Rho) : M Out := (Fs ρ).bind fun ss => match ss with
  | [s, t] => M.ret (.nx ((ρ.set i (some s)).set j (some t)))
  | _ => M.fail
theorem s_par (i j : Nat) {x y : Str} {px py pt : Pos} {kt k2 pt2} {Fs : Rho → M (List Sv)} (hc : X.calm = true) (hN : X.N.Nodup) (ha : PAX X E [a, b] Fs) (hw : swappedStores [.Tuple [.Name x px, .Name y py] kt pt] (.Tuple [a, b] k2 pt2) X.env = pure (some [x, y]))
    (hi : X.N[i]? = some x := by rfl) (hj : X.N[j]? = some y := by rfl) (hij : i ≠ j := by decide) (hx : X.env.scope.names.lookup x = some .local := by rfl) (hy : X.env.scope.names.lookup y = some .local := by rfl)
    (hs : swapsWithSole [.Tuple [.Name x px, .Name y py] kt pt] (.Tuple [a, b] k2 pt2) pos.line X.env = pure false := by rfl) : PSX X E (.Assign [.Tuple [.Name x px, .Name y py] kt pt] (.Tuple [a, b] k2 pt2) pos) (gPar i j Fs) :=
  ps_weak (ps_par hc hN hi hj hij hx hy ha hw hs) fun D σ H ⟨W, ρ, μ, r, h, e, q⟩ => by
    refine tAr_bind h e q fun vs ss W1 H1 μ1 g1 h1 rs e1 q1 => ?_
    split at e1
    · cases e1
      obtain ⟨v, w, rfl, r1, r2⟩ := rels2 rs
      exact ⟨v, w, rfl, q1 _ _ (Grow.refl _ _ _) h1.rel _ ((h1.sl.set i r1).set j r2)⟩
    · cases e1
theorem rels3 {K : PySem.W.Frag} {W : Wd} {n : Nat} {xs : List V} {s t u : Sv} (h : SvRs K W n xs [s, t, u]) : ∃ x y z, xs = [x, y, z] ∧ SvR K W n x s ∧ SvR K W n y t ∧ SvR K W n z u := by
  cases h with
  | cons h r =>
    obtain ⟨y, z, rfl, h2, h3⟩ := rels2 r
    exact ⟨_, y, z, rfl, h, h2, h3⟩
def gPar3 (i j l : Nat) (Fs : Rho → M (List Sv)) (ρ : Rho) : M Out := (Fs ρ).bind fun ss => match ss with
  | [s, t, u] => M.ret (.nx (((ρ.set i (some s)).set j (some t)).set l (some u)))
  | _ => M.fail
theorem s_par3 (i j l : Nat) {x y z : Str} {px py pz pt : Pos} {kt k2 pt2} {Fs : Rho → M (List Sv)} (hc : X.calm = true) (hN : X.N.Nodup) (ha : PAX X E [a, b, c] Fs)
    (hw : swappedStores [.Tuple [.Name x px, .Name y py, .Name z pz] kt pt] (.Tuple [a, b, c] k2 pt2) X.env = pure (some [x, y, z]))
    (hi : X.N[i]? = some x := by rfl) (hj : X.N[j]? = some y := by rfl) (hl : X.N[l]? = some z := by rfl) (hij : i ≠ j := by decide) (hil : i ≠ l := by decide) (hjl : j ≠ l := by decide) (hx : X.env.scope.names.lookup x = some .local := by rfl) (hy : X.env.scope.names.lookup y = some .local := by rfl)
    (hz : X.env.scope.names.lookup z = some .local := by rfl) (hs : swapsWithSole [.Tuple [.Name x px, .Name y py, .Name z pz] kt pt] (.Tuple [a, b, c] k2 pt2) pos.line X.env = pure false := by rfl) :
    PSX X E (.Assign [.Tuple [.Name x px, .Name y py, .Name z pz] kt pt] (.Tuple [a, b, c] k2 pt2) pos) (gPar3 i j l Fs) :=
  ps_weak (ps_par3 hc hN hi hj hl hij hil hjl hx hy hz ha hw hs) fun D σ H ⟨W, ρ, μ, r, h, e, q⟩ => by
    refine tAr_bind h e q fun vs ss W1 H1 μ1 g1 h1 rs e1 q1 => ?_
    split at e1
    · cases e1
      obtain ⟨v, w, u, rfl, r1, r2, r3⟩ := rels3 rs
      exact ⟨v, w, u, rfl, q1 _ _ (Grow.refl _ _ _) h1.rel _ (((h1.sl.set i r1).set j r2).set l r3)⟩
    · cases e1
def gAug (i : Nat) (op : Sv → Sv → M Sv) (Fa : Rho → M Sv) (ρ : Rho) : M Out := (slot i ρ).bind fun s => (Fa ρ).bind fun t => (op s t).bind fun u => M.ret (.nx (ρ.set i (some u)))
/-- n += e, ints -/
def pInts (f : Int → Int → Int) (a b : Sv) : M Sv := match a, b with
  | .dat (.int i), .dat (.int j) => M.ret (.dat (.int (f i j)))
  | _, _ => M.fail
theorem s_augI (i : Nat) {x : Str} {pos' : Pos} {op : Operator} {f : Int → Int → Int} (hN : X.N.Nodup) (ho : PIp X op (ipI f)) (ha : PX X E a Fa) (hi : X.N[i]? = some x := by rfl) (hx : Loc X.env.scope x := by first | exact Or.inl rfl | exact Or.inr rfl)
    (hf : X.fn x = true ∨ X.env.scope.names.lookup x = some .local := by first | exact .inl rfl | exact .inr rfl) : PSX X E (.AugAssign (.Name x pos') op a pos) (gAug i (pInts f) Fa) := ps_weak (ps_aug hN hi hx ha ho hf) fun D σ H ⟨W, ρ, μ, r, h, e, q⟩ => by
  rcases bind_some e with ⟨s, μ1, e1, e2⟩ | ⟨c, μ1, e1, rfl⟩
  · obtain ⟨s', hs, z⟩ := slot_some e1
    cases z
    obtain ⟨v, a1, a2⟩ := h.sl.at_ i s hs
    refine ⟨v, a1, tX_bind h e2 q fun u t W1 H1 μ1 g1 h1 rt e3 q1 => ?_⟩
    rcases bind_some e3 with ⟨w, μ2, e4, e5⟩ | ⟨c, μ2, e4, rfl⟩
    · unfold pInts at e4
      split at e4
      · cases e4
        cases e5
        exact ⟨_, _, dq_int (a2.grow g1), dq_int rt, q1 _ _ (Grow.refl _ _ _) h1.rel _ (h1.sl.set i (.int _))⟩
      · cases e4
    · unfold pInts at e4
      split at e4
      · cases e4
      · cases e4
  · obtain ⟨_, _, z⟩ := slot_some e1
    cases z

/-! ### what a for walks -/
structure Wk (K : PySem.W.Frag) (J : It) (W : Wd) (ds : List PyData) : Prop where
  go : ∀ (i : Nat) (d : PyData) (W1 : Wd) (H : Hp) (μ : Mu), Same W.S W1.S → Rel K W1 H μ → ds[i]? = some d → J.go i H
  yld : ∀ (i : Nat) (d : PyData) (W1 : Wd) (H : Hp) (μ : Mu) (x : V) (H' : Hp), Same W.S W1.S → Rel K W1 H μ → ds[i]? = some d → J.yld i H x H' → ∃ W2, Grow W1 H μ W2 H' μ ∧ Rel K W2 H' μ ∧ Dq K W2.S x d
  stop : ∀ (i : Nat) (W1 : Wd) (H : Hp) (μ : Mu), Same W.S W1.S → Rel K W1 H μ → ds.length ≤ i → J.stop i H
def tI (K : PySem.W.Frag) (E : XK) (F : Rho → M (List PyData)) : TI := fun σ H R => ∃ W ρ μ r, Here K W σ H ρ μ ∧ F ρ μ = some r ∧ Ko K E W H μ r fun W' H' ds μ' => ∀ J, Wk K J W' ds → R J H'
abbrev PIX (X : Cx) (E : XK) (tg : Expr) (e : Expr) (F : Rho → M (List PyData)) : Prop := PI X tg e (tI X.K E F)
theorem pi_weak {X : Cx} {tg e : Expr} {t t' : TI} (h : PI X tg e t) (w : ∀ σ H Q, t' σ H Q → t σ H Q) : PI X tg e t' := ⟨fun pins s σ H Q I q => h.run pins s σ H Q I (w _ _ _ q)⟩
theorem wk_list {K : PySem.W.Frag} {W : Wd} {a : Addr} {vs : List V} {ds : List PyData} (h : W.S a = some (.lst vs)) (r : Dqs K W.S vs ds) : Wk K (Itl K a) W ds where
  go := fun i d W1 H μ g R e => by
    obtain ⟨v, a1, _⟩ := r.getD e
    exact ⟨vs, v, SqL.of (R.sub _ _ (g _ _ h)), a1⟩
  yld := fun i d W1 H μ x H' g R e y => by
    obtain ⟨rfl, y2⟩ := y
    obtain ⟨v, a1, a2⟩ := r.getD e
    have z := y2 vs (SqL.of (R.sub _ _ (g _ _ h)))
    rw [a1] at z
    cases z
    exact ⟨W1, Grow.refl _ _ _, R, Dq.mono g a2⟩
  stop := fun i W1 H μ g R e => ⟨vs, SqL.of (R.sub _ _ (g _ _ h)), by rw [r.len]; exact e⟩
theorem wk_tup {K : PySem.W.Frag} {W : Wd} {a : Addr} {vs : List V} {ds : List PyData} (h : SqT K W.S a vs) (r : Dqs K W.S vs ds) : Wk K (Itt K a) W ds where
  go := fun i d W1 H μ g R e => by
    obtain ⟨v, a1, _⟩ := r.getD e
    exact ⟨vs, v, seqT_mono R.sub (seqT_mono g h), a1⟩
  yld := fun i d W1 H μ x H' g R e y => by
    obtain ⟨rfl, y2⟩ := y
    obtain ⟨v, a1, a2⟩ := r.getD e
    have z := y2 vs (seqT_mono R.sub (seqT_mono g h))
    rw [a1] at z
    cases z
    exact ⟨W1, Grow.refl _ _ _, R, Dq.mono g a2⟩
  stop := fun i W1 H μ g R e => ⟨vs, seqT_mono R.sub (seqT_mono g h), by rw [r.len]; exact e⟩
/-- a for over a list or a tuple of data -/
def seqOf (s : Sv) : M (List PyData) := match s with
  | .dat (.list ds) => M.ret ds
  | .dat (.tuple ds) => M.ret ds
  | _ => M.fail
def seqV (Fa : Rho → M Sv) (ρ : Rho) : M (List PyData) := (Fa ρ).bind seqOf
theorem i_seq {tg : Expr} (ha : PX X E a Fa) : PIX X E tg a (seqV Fa) := by
  refine ⟨fun pins s σ H R I ⟨W, ρ, μ, r, h, e, q⟩ => ?_⟩
  rcases bind_some e with ⟨x, μ1, e1, e2⟩ | ⟨c, μ1, e1, rfl⟩
  · have e2' := e2
    unfold seqOf at e2
    split at e2
    · refine (pi_list ha).run pins s σ H R I ⟨W, ρ, μ, _, h, e1, fun W1 H1 g R1 v rv => ?_⟩
      cases e2
      cases rv with
      | lst h1 r1 => exact ⟨_, rfl, ⟨_, SqL.of (R1.sub _ _ h1)⟩, q W1 H1 g R1 _ (wk_list h1 r1)⟩
    · refine (pi_tup ha).run pins s σ H R I ⟨W, ρ, μ, _, h, e1, fun W1 H1 g R1 v rv => ?_⟩
      cases e2
      cases rv with
      | tup h1 r1 => exact ⟨_, rfl, ⟨_, seqT_mono R1.sub h1⟩, q W1 H1 g R1 _ (wk_tup h1 r1)⟩
    · cases e2
  · exact (pi_list ha).run pins s σ H R I ⟨W, ρ, μ, _, h, e1, q⟩
def upto (n : Nat) : List PyData := (List.range n).map fun k => .int (k : Nat)
def fromTo (lo : Int) (n : Nat) : List PyData := (List.range n).map fun k => .int (lo + (k : Nat))
theorem wk_range {K : PySem.W.Frag} {W : Wd} {lo : Int} {n : Nat} : Wk K (Itr lo n) W (fromTo lo n) where
  go := fun i d W1 H μ g R e => by
    have := (List.getElem?_eq_some_iff.mp e).1
    show i < n
    simpa [fromTo] using this
  yld := fun i d W1 H μ x H' g R e y => by
    obtain ⟨rfl, rfl⟩ := y
    have hi : i < n := by
      have := (List.getElem?_eq_some_iff.mp e).1
      simpa [fromTo] using this
    have : d = .int (lo + (i : Nat)) := by
      unfold fromTo at e
      rw [List.getElem?_map, List.getElem?_range hi] at e
      exact (Option.some.inj e).symm
    subst this
    exact ⟨W1, Grow.refl _ _ _, R, .int _⟩
  stop := fun i W1 H μ g R e => by
    show n ≤ i
    simpa [fromTo] using e
def big62 (i : Int) : Bool := decide (-(2 ^ 62) ≤ i) && decide (i < 2 ^ 62)
def rngV (Fa : Rho → M Sv) (ρ : Rho) : M (List PyData) := (Fa ρ).bind fun s => (asI s).bind fun i => if big62 i = true then M.ret (fromTo 0 i.toNat) else M.fail
theorem i_rng {tg : Expr} (hg : Gl X "range") (hm : X.mg "range" = none) (ha : PX X E a Fa) (hs : starEach [a] X.env = (false, eval a X.env) :: starEach [] X.env := by rfl) (hs2 : starEach [a] X.env = [(false, eval a X.env)] := by rfl) : PIX X E tg (.Call (.Name "range" p) [a] [] pos) (rngV Fa) :=
  pi_weak (pi_range1 hg hm (pa_cons ha pa_nil hs) hs2) fun σ H R ⟨W, ρ, μ, r, h, e, q⟩ => by
    refine tX_bind h e q fun v s W1 H1 μ1 g1 h1 rs e1 q1 => ?_
    obtain ⟨i, rfl, e1⟩ := asI_bind e1
    obtain ⟨c, e1⟩ := iff_ok e1
    obtain ⟨c1, c2⟩ := Bool.and_eq_true_iff.mp c
    cases rs
    cases e1
    exact ⟨i, rfl, of_decide_eq_true c1, of_decide_eq_true c2, q1 _ _ (Grow.refl _ _ _) h1.rel _ wk_range⟩
end
end Pf

namespace Pf
open PySem PySem.Spec PyProof.Rows L2

section
variable {X : Cx} {E : XK} {e a b c iter tg : Expr} {Fa Fb Fc : Rho → M Sv} {G G' B : Rho → M Out} {st : Stmt} {rest body : List Stmt} {pos p : Pos} {T : Sv → Rho → M Rho} {Fi : Rho → M (List PyData)}
/-! ### for -/
def loopG (T : Sv → Rho → M Rho) (B : Rho → M Out) : List PyData → Rho → M Out
  | [], ρ => M.ret (.nx ρ)
  | d :: ds, ρ => (T (.dat d) ρ).bind fun ρ1 => (B ρ1).bind fun o => match o with
    | .nx ρ2 => loopG T B ds ρ2
    | .ct ρ2 => loopG T B ds ρ2
    | .bk ρ2 => M.ret (.nx ρ2)
    | .rt s => M.ret (.rt s)
def gFor (Fi : Rho → M (List PyData)) (T : Sv → Rho → M Rho) (B : Rho → M Out) (ρ : Rho) : M Out := (Fi ρ).bind fun ds => loopG T B ds ρ
theorem s_for (hp : PassesOwn (model X.prog X.w) X.A X.env X.xe) (hc : X.calm = true) (hi : PIX X E tg iter Fi) (hg : PGX X E tg T) (hb : PSSX X E body B) (hs : ∀ x, foldedSetIterable iter X.env x = pure x := by intro _; rfl) :
    PSX X E (.For tg iter body [] pos) (gFor Fi T B) := ps_weak (ps_for hp hc hi hg hb hs) fun D σ H ⟨W0, ρ0, μ0, r, h0, e0, q0⟩ => by
  rcases bind_some e0 with ⟨ds, μ1, e1, e2⟩ | ⟨c, μ1, e1, rfl⟩
  · refine ⟨W0, ρ0, μ0, _, h0, e1, fun W1 H1 g1 R1 J wk => ?_⟩
    have q1 := q0.later g1
    refine ⟨fun i m σ H => m = ds.length - i ∧ i ≤ ds.length ∧ ∃ W ρ μ, Here X.K W σ H ρ μ ∧ Same W1.S W.S ∧ loopG T B (ds.drop i) ρ μ = some r ∧ Ko X.K E W H μ r (OutOk X.K D),
      ⟨ds.length, rfl, Nat.zero_le _, W1, ρ0, μ1, h0.next g1 R1, Same.refl _, e2, q1⟩, ?_⟩
    rintro i m σ H ⟨rfl, hi, W, ρ, μ, h, sm, e, q⟩
    by_cases hlt : i < ds.length
    · have hd : ds[i]? = some ds[i] := List.getElem?_eq_getElem hlt
      rw [List.drop_eq_getElem_cons hlt] at e
      refine .inr ⟨wk.go i _ W H μ sm h.rel hd, fun σ' H' => ∃ W ρ μ, Here X.K W σ' H' ρ μ ∧ Same W1.S W.S ∧ loopG T B (ds.drop (i + 1)) ρ μ = some r ∧ Ko X.K E W H' μ r (OutOk X.K D),
        fun σ' H' hN => ⟨ds.length - (i + 1), by omega, rfl, hlt, hN⟩, fun x H' hy => ?_⟩
      obtain ⟨W2, g2, R2, hx⟩ := wk.yld i _ W H μ x H' sm h.rel hd hy
      have h2 : Here X.K W2 σ H' ρ μ := h.next g2 R2
      have q2 := q.later g2
      have sm2 : Same W1.S W2.S := sm.trans g2.same
      have e' : M.bind (T (.dat ds[i]) ρ) (fun ρ1 => (B ρ1).bind fun o => match o with
        | .nx ρ2 => loopG T B (ds.drop (i + 1)) ρ2
        | .ct ρ2 => loopG T B (ds.drop (i + 1)) ρ2
        | .bk ρ2 => M.ret (.nx ρ2)
        | .rt s => M.ret (.rt s)) μ = some r := e
      rcases bind_some e' with ⟨ρ1, μ3, e3, e4⟩ | ⟨c, μ3, e3, rfl⟩
      · refine ⟨W2, ρ, μ, .dat ds[i], _, h2, hx, e3, fun W3 H3 g3 R3 σ3 s3 => ?_⟩
        refine tG_bind ⟨R3, s3⟩ e4 (q2.later g3) fun o W4 H4 μ4 g4 R4 e5 q5 => ?_
        have sm4 : Same W1.S W4.S := (sm2.trans g3.same).trans g4.same
        cases o with
        | nx ρ4 => exact fun σ4 s4 => ⟨W4, ρ4, μ4, ⟨R4, s4⟩, sm4, e5, q5⟩
        | ct ρ4 => exact fun σ4 s4 => ⟨W4, ρ4, μ4, ⟨R4, s4⟩, sm4, e5, q5⟩
        | bk ρ4 =>
          cases e5
          exact q5 _ _ (Grow.refl _ _ _) R4
        | rt s =>
          cases e5
          exact q5 _ _ (Grow.refl _ _ _) R4
      · exact ⟨W2, ρ, μ, .dat ds[i], _, h2, hx, e3, q2⟩
    · refine .inl ⟨wk.stop i W H μ sm h.rel (by omega), ?_⟩
      rw [List.drop_eq_nil_of_le (by omega)] at e
      cases e
      exact q _ _ (Grow.refl _ _ _) h.rel _ h.sl
  · exact ⟨W0, ρ0, μ0, _, h0, e1, q0⟩

/-! ### while, by a bound on its turns -/
def loopW (F : Rho → M Bool) (B : Rho → M Out) : Nat → Rho → M Out
  | 0, _ => M.fail
  | n + 1, ρ => (F ρ).bind fun k => if k = true then (B ρ).bind fun o => match o with
    | .nx ρ2 => loopW F B n ρ2
    | .ct ρ2 => loopW F B n ρ2
    | .bk ρ2 => M.ret (.nx ρ2)
    | .rt s => M.ret (.rt s) else M.ret (.nx ρ)
theorem s_while (n : Nat) {F : Rho → M Bool} (hp : PassesOwn (model X.prog X.w) X.A X.env X.xe) (hc : PTX X E c F) (hb : PSSX X E body B) : PSX X E (.While c body [] pos) (loopW F B n) := ps_weak (ps_while hp hc hb) fun D σ H ⟨W0, ρ0, μ0, r, h0, e0, q0⟩ => by
  refine ⟨fun m σ H => ∃ W ρ μ, Here X.K W σ H ρ μ ∧ loopW F B m ρ μ = some r ∧ Ko X.K E W H μ r (OutOk X.K D), ⟨n, W0, ρ0, μ0, h0, e0, q0⟩, ?_⟩
  rintro m σ H ⟨W, ρ, μ, h, e, q⟩
  cases m with
  | zero => cases e
  | succ m =>
    refine tT_bind h e q fun k W1 H1 μ1 g1 h1 e1 q1 => ?_
    cases k with
    | false =>
      rw [if_neg Bool.false_ne_true] at e1 ⊢
      cases e1
      exact q1 _ _ (Grow.refl _ _ _) h1.rel _ h1.sl
    | true =>
      rw [if_pos rfl] at e1 ⊢
      refine ⟨fun σ' H' => ∃ W ρ μ, Here X.K W σ' H' ρ μ ∧ loopW F B m ρ μ = some r ∧ Ko X.K E W H' μ r (OutOk X.K D), fun σ' H' hN => ⟨m, Nat.lt_succ_self _, hN⟩, ?_⟩
      refine tG_bind h1 e1 q1 fun o W4 H4 μ4 g4 R4 e5 q5 => ?_
      cases o with
      | nx ρ4 => exact fun σ4 s4 => ⟨W4, ρ4, μ4, ⟨R4, s4⟩, e5, q5⟩
      | ct ρ4 => exact fun σ4 s4 => ⟨W4, ρ4, μ4, ⟨R4, s4⟩, e5, q5⟩
      | bk ρ4 =>
        cases e5
        exact q5 _ _ (Grow.refl _ _ _) R4
      | rt s =>
        cases e5
        exact q5 _ _ (Grow.refl _ _ _) R4

/-! ### comprehensions -/
/-- only these slots are written -/
def tPw (K : PySem.W.Frag) (E : XK) (vs : List Nat) (T : Sv → Rho → M Rho) : TG := fun v σ H Q => ∃ W ρ μ s r, Here K W σ H ρ μ ∧ SvR K W μ.length v s ∧ T s ρ μ = some r ∧ Ko K E W H μ r fun W' H' ρ' μ' => ∀ σ', Sls K W' μ'.length σ' ρ' → wipe σ' vs = wipe σ vs → Q σ' H'
def tPws (K : PySem.W.Frag) (E : XK) (vs : List Nat) (T : List Sv → Rho → M Rho) : TGs := fun v σ H Q => ∃ W ρ μ s r, Here K W σ H ρ μ ∧ SvRs K W μ.length v s ∧ T s ρ μ = some r ∧ Ko K E W H μ r fun W' H' ρ' μ' => ∀ σ', Sls K W' μ'.length σ' ρ' → wipe σ' vs = wipe σ vs → Q σ' H'
abbrev PGW (X : Cx) (E : XK) (vs : List Nat) (tg : Expr) (T : Sv → Rho → M Rho) : Prop := PG X tg (tPw X.K E vs T)
abbrev PGsW (X : Cx) (E : XK) (vs : List Nat) (tg : List Expr) (T : List Sv → Rho → M Rho) : Prop := PGs X tg (tPws X.K E vs T)
theorem wipe_out {σ : L2.St} {v : Option V} : ∀ {vs : List Nat} {i : Nat}, i ∈ vs → wipe (σ.set i v) vs = wipe σ vs
  | [], _, h => absurd h List.not_mem_nil
  | k :: vs, i, h => by
    show (wipe (σ.set i v) vs).set k none = (wipe σ vs).set k none
    by_cases hk : i ∈ vs
    · rw [wipe_out hk]
    · have hik : i = k := by
        rcases List.mem_cons.mp h with z | z
        · exact z
        · exact absurd z hk
      subst hik
      have comm : ∀ (ws : List Nat) (σ : L2.St), i ∉ ws → wipe (σ.set i v) ws = (wipe σ ws).set i v := fun ws => by
        induction ws with
        | nil => exact fun _ _ => rfl
        | cons w ws ih =>
          intro σ hw
          show (wipe (σ.set i v) ws).set w none = ((wipe σ ws).set w none).set i v
          rw [ih σ fun z => hw (List.mem_cons_of_mem _ z), List.set_comm _ _ fun z => hw (by rw [z]; exact List.mem_cons_self)]
      rw [comm vs σ hk, List.set_set]
theorem pw_nm (i : Nat) {vs : List Nat} {x : Str} (hN : X.N.Nodup) (hm : i ∈ vs) (hi : X.N[i]? = some x := by rfl) (hx : Loc X.env.scope x := by first | exact Or.inl rfl | exact Or.inr rfl) (hf : X.fn x = true ∨ X.env.scope.names.lookup x = some .local := by first | exact .inl rfl | exact .inr rfl) : PGW X E vs (.Name x pos) (gNm i) :=
  pg_weak (pg_name hN hi hx hf) fun v σ H Q ⟨W, ρ, μ, s, r, h, rs, e, q⟩ => by
    cases e
    exact q _ _ (Grow.refl _ _ _) h.rel _ (h.sl.set i rs) (wipe_out hm)
theorem pws_0 {vs : List Nat} : PGsW X E vs [] gsNil := pgs_weak pgs_nil fun v σ H Q ⟨W, ρ, μ, s, r, h, rs, e, q⟩ => by
  unfold gsNil at e
  split at e
  · cases e
    cases rs
    exact ⟨rfl, q _ _ (Grow.refl _ _ _) h.rel _ h.sl rfl⟩
  · cases e
theorem pws_c {vs : List Nat} {t : Expr} {ts : List Expr} {T : Sv → Rho → M Rho} {U : List Sv → Rho → M Rho} (h1 : PGW X E vs t T) (h2 : PGsW X E vs ts U) (hs : (assignEach (t :: ts) X.env).map (·.2) = assign t X.env :: (assignEach ts X.env).map (·.2) := by rfl) : PGsW X E vs (t :: ts) (gsCons T U) := pgs_weak (pgs_cons h1 h2 hs) fun v σ H Q ⟨W, ρ, μ, s, r, h, rs, e, q⟩ => by
  unfold gsCons at e
  split at e
  · cases rs with
    | cons r1 r2 =>
      refine ⟨_, _, rfl, ?_⟩
      rcases bind_some e with ⟨ρ', μ1, e1, e2⟩ | ⟨c, μ1, e1, rfl⟩
      · refine ⟨W, ρ, μ, _, _, h, r1, e1, fun W1 H1 g R σ1 s1 w1 => ⟨W1, ρ', μ1, _, r, ⟨R, s1⟩, SvRs.grow g r2, e2, ?_⟩⟩
        have q' := q.later g
        cases r with
        | ok ρ2 μ2 => exact fun W2 H2 g2 R2 σ2 s2 w2 => q' W2 H2 g2 R2 σ2 s2 (w2.trans w1)
        | ex c μ2 => exact q'
      · exact ⟨W, ρ, μ, _, _, h, r1, e1, q⟩
  · cases e
theorem pw_tp {vs : List Nat} {ts : List Expr} {U : List Sv → Rho → M Rho} {k : Nat} (n : Nat) (hc : X.calm = true) (h : PGsW X E vs ts U) (hn : (assignEach ts X.env).length = n := by rfl) (hst : (assignEach ts X.env).findIdx? (·.1) = none := by rfl) : PGW X E vs (.Tuple ts k pos) (gTp n U) := by
  refine pg_weak (pg_tup hc h hn hst) fun v σ H Q ⟨W, ρ, μ, s, r, h, rs, e, q⟩ => ?_
  unfold gTp at e
  split at e
  · obtain ⟨c, e⟩ := iff_ok e
    cases rs with
    | tup h1 r1 => exact ⟨_, _, rfl, seqT_mono h.rel.sub h1, by rw [r1.len]; exact of_decide_eq_true c, W, ρ, μ, _, r, h, rel_dats r1, e, q⟩
  · cases e
abbrev PTsX (X : Cx) (E : XK) (es : List Expr) (F : Rho → M Bool) : Prop := PTs X es (tT X.K E F)
theorem pts_weak {X : Cx} {e : List Expr} {t t' : TT} (h : PTs X e t) (w : ∀ σ H Q, t' σ H Q → t σ H Q) : PTs X e t' := ⟨fun pins s σ H Q I q => h.run pins s σ H Q I (w _ _ _ q)⟩
def yes (_ : Rho) : M Bool := M.ret true
theorem ts_nil : PTsX X E [] yes := pts_weak pts_nil fun σ H Q ⟨W, ρ, μ, r, h, e, q⟩ => by
  cases e
  exact q _ _ (Grow.refl _ _ _) h.rel
theorem ts_one {F : Rho → M Bool} (h : PTX X E c F) : PTsX X E [c] F := pts_one h
def wipeR (ρ : Rho) : List Nat → Rho
  | [] => ρ
  | v :: vs => (wipeR ρ vs).set v none
theorem wipe_sl {K : PySem.W.Frag} {W : Wd} {n : Nat} {σ : L2.St} {ρ : Rho} (h : Sls K W n σ ρ) : ∀ vs : List Nat, Sls K W n (wipe σ vs) (wipeR ρ vs)
  | [] => h
  | v :: vs => by
    have ih := wipe_sl h vs
    refine ⟨fun i x e => ?_, ?_⟩
    · have e' : ((wipeR ρ vs).set v none)[i]? = some (some x) := e
      by_cases hv : v = i
      · subst hv
        have hl : v < (wipeR ρ vs).length := by
          have := (List.getElem?_eq_some_iff.mp e').1
          simpa using this
        rw [List.getElem?_set_self hl] at e'
        cases e'
      · rw [List.getElem?_set_ne hv] at e'
        obtain ⟨u, a1, a2⟩ := ih.at_ i x e'
        exact ⟨u, by show ((wipe σ vs).set v none)[i]? = _; rw [List.getElem?_set_ne hv]; exact a1, a2⟩
    · show ((wipe σ vs).set v none).length = ((wipeR ρ vs).set v none).length
      rw [List.length_set, List.length_set, ih.len]
def noEx {α : Type} (m : M α) : M α := fun μ => match m μ with
  | some (.ok a μ') => some (.ok a μ')
  | _ => none
theorem noEx_bind {α β : Type} {m : M α} {k : α → M β} {μ : Mu} {r : Res β} (h : M.bind (noEx m) k μ = some r) : ∃ a μ1, m μ = some (.ok a μ1) ∧ k a μ1 = some r := by
  unfold M.bind noEx at h
  cases e : m μ with
  | none =>
    rw [e] at h
    cases h
  | some x =>
    rw [e] at h
    cases x with
    | ok a μ1 => exact ⟨a, μ1, rfl, h⟩
    | ex c μ1 => cases h
def lcL (T : Sv → Rho → M Rho) (C : Rho → M Bool) (Fe : Rho → M Sv) : List PyData → Rho → M (List Sv)
  | [], _ => M.ret []
  | d :: ds, ρ => (noEx (T (.dat d) ρ)).bind fun ρ1 => (noEx (C ρ1)).bind fun k => if k = true then (noEx (Fe ρ1)).bind fun s => (lcL T C Fe ds ρ).bind fun r => M.ret (s :: r) else lcL T C Fe ds ρ
def lcV (m : Bool) (vs : List Nat) (Fi : Rho → M (List PyData)) (T : Sv → Rho → M Rho) (C : Rho → M Bool) (Fe : Rho → M Sv) (ρ : Rho) : M Sv :=
  (Fi ρ).bind fun ds => if szOk ds.length = true then (lcL T C Fe ds (wipeR ρ vs)).bind fun ss => mkl m ss else M.fail
theorem lcL_len {T : Sv → Rho → M Rho} {C : Rho → M Bool} {Fe : Rho → M Sv} : ∀ {ds : List PyData} {ρ : Rho} {μ μ' : Mu} {ss : List Sv}, lcL T C Fe ds ρ μ = some (.ok ss μ') → ss.length ≤ ds.length
  | [], _, _, _, _, e => by
    cases e
    exact Nat.le_refl _
  | d :: ds, ρ, μ, μ', ss, e => by
    obtain ⟨ρ1, μ1, _, e⟩ := noEx_bind e
    obtain ⟨k, μ2, _, e⟩ := noEx_bind e
    cases k with
    | false =>
      rw [if_neg Bool.false_ne_true] at e
      exact Nat.le_succ_of_le (lcL_len e)
    | true =>
      rw [if_pos rfl] at e
      obtain ⟨s, μ3, _, e⟩ := noEx_bind e
      rcases bind_some e with ⟨r, μ4, e1, e2⟩ | ⟨c, μ4, e1, e2⟩
      · cases e2
        exact Nat.succ_le_succ (lcL_len e1)
      · cases e2
theorem lcL_noex {T : Sv → Rho → M Rho} {C : Rho → M Bool} {Fe : Rho → M Sv} : ∀ {ds : List PyData} {ρ : Rho} {μ μ' : Mu} {c : Exc}, lcL T C Fe ds ρ μ = some (.ex c μ') → False
  | [], _, _, _, _, e => nomatch e
  | d :: ds, ρ, μ, μ', c, e => by
    obtain ⟨ρ1, μ1, _, e⟩ := noEx_bind e
    obtain ⟨k, μ2, _, e⟩ := noEx_bind e
    cases k with
    | false =>
      rw [if_neg Bool.false_ne_true] at e
      exact lcL_noex e
    | true =>
      rw [if_pos rfl] at e
      obtain ⟨s, μ3, _, e⟩ := noEx_bind e
      rcases bind_some e with ⟨r, μ4, e1, e2⟩ | ⟨c, μ4, e1, e2⟩
      · cases e2
      · exact lcL_noex e1
theorem wipe_get {σ : L2.St} : ∀ {vs : List Nat} {i : Nat}, (wipe σ vs)[i]? = if i < σ.length then (if i ∈ vs then some none else σ[i]?) else none
  | [], i => by
    by_cases h : i < σ.length
    · rw [if_pos h, if_neg List.not_mem_nil]
      rfl
    · rw [if_neg h]
      exact List.getElem?_eq_none (show σ.length ≤ i by omega)
  | v :: vs, i => by
    show ((wipe σ vs).set v none)[i]? = _
    by_cases hv : v = i
    · subst hv
      by_cases h : v < σ.length
      · rw [if_pos h, if_pos List.mem_cons_self, List.getElem?_set_self (by rw [wipe_length]; exact h)]
      · rw [if_neg h]
        exact List.getElem?_eq_none (by rw [List.length_set, wipe_length]; omega)
    · rw [List.getElem?_set_ne hv, wipe_get]
      by_cases h : i < σ.length
      · rw [if_pos h, if_pos h]
        by_cases hm : i ∈ vs
        · rw [if_pos hm, if_pos (List.mem_cons_of_mem _ hm)]
        · rw [if_neg hm, if_neg fun z => by
            rcases List.mem_cons.mp z with z | z
            · exact hv z.symm
            · exact hm z]
      · rw [if_neg h, if_neg h]
theorem wipe_wipe {σ : L2.St} (vs : List Nat) : wipe (wipe σ vs) vs = wipe σ vs := by
  apply List.ext_getElem?
  intro i
  rw [wipe_get, wipe_length, wipe_get]
  by_cases h : i < σ.length
  · rw [if_pos h, if_pos h]
    by_cases hm : i ∈ vs
    · rw [if_pos hm, if_pos hm]
    · rw [if_neg hm, if_neg hm]
  · rw [if_neg h, if_neg h]
/-- what is asked of a comprehension, from the pure reading -/
theorem lc_ent {K : PySem.W.Frag} {m : Bool} {vs : List Nat} {C : Rho → M Bool} {Fe : Rho → M Sv} {σ : L2.St} {H : Hp} {Q : VK} (h : tX K E (lcV m vs Fi T C Fe) σ H Q) : tLc (tI K E Fi) (tPw K E0 vs T) (tT K E0 C) (tX K E0 Fe) vs σ H Q := by
  obtain ⟨W0, ρ0, μ0, r, h0, e0, q0⟩ := h
  rcases bind_some e0 with ⟨ds, μ1, e1, e2⟩ | ⟨c, μ1, e1, rfl⟩
  · refine ⟨W0, ρ0, μ0, _, h0, e1, fun W1 H1 g1 R1 J wk D hD => ?_⟩
    have q1 : KoV K E W1 H1 μ1 r Q := q0.later g1
    obtain ⟨csz, e2⟩ := iff_ok e2
    have hsz : ds.length < sizeLine := szOk_lt csz
    have s1 : Sls K W1 μ1.length (wipe σ vs) (wipeR ρ0 vs) := wipe_sl (h0.sl.grow g1) vs
    refine ⟨fun i n H => n = ds.length - i ∧ i ≤ ds.length ∧ ∃ W μ acc us, Rel K W H μ ∧ Grow W1 H1 μ1 W H μ ∧ Loose W μ D ∧ H D = some (.lst us) ∧ SvRs K W μ.length us acc ∧ acc.length ≤ i ∧
        M.bind (lcL T C Fe (ds.drop i) (wipeR ρ0 vs)) (fun ss => mkl m (acc ++ ss)) μ = some r,
      ⟨ds.length, rfl, Nat.zero_le _, W1, μ1, [], [], R1.lay hD, (Grow.refl _ _ _).out hD fun a ha => upd_ne ha, R1.fresh hD, upd_same, .nil, Nat.le_refl _, e2⟩, ?_⟩
    rintro i n H ⟨rfl, hi, W, μ, acc, us, R, gr, hT, hH, ra, hac, e⟩
    by_cases hlt : i < ds.length
    · have hd : ds[i]? = some ds[i] := List.getElem?_eq_getElem hlt
      rw [List.drop_eq_getElem_cons hlt] at e
      refine .inr ⟨wk.go i _ W H μ gr.same R hd, fun H' => ∃ W μ acc us, Rel K W H' μ ∧ Grow W1 H1 μ1 W H' μ ∧ Loose W μ D ∧ H' D = some (.lst us) ∧ SvRs K W μ.length us acc ∧ acc.length ≤ i + 1 ∧
        M.bind (lcL T C Fe (ds.drop (i + 1)) (wipeR ρ0 vs)) (fun ss => mkl m (acc ++ ss)) μ = some r, fun H' hN => ⟨ds.length - (i + 1), by omega, rfl, hlt, hN⟩, fun x H' hy => ?_⟩
      obtain ⟨W2, g2, R2, hx⟩ := wk.yld i _ W H μ x H' gr.same R hd hy
      obtain ⟨hH2, hT2⟩ := g2.frm D _ hH hT
      rcases bind_some e with ⟨ss, μ9, e3, e4⟩ | ⟨c, μ9, e3, rfl⟩
      · obtain ⟨ρ1, μ3, e5, e3⟩ := noEx_bind e3
        have gg2 := gr.trans g2
        refine ⟨W2, wipeR ρ0 vs, μ, .dat ds[i], _, ⟨R2, s1.grow gg2⟩, hx, e5, fun W3 H3 g3 R3 σ3 s3 w3 => ⟨w3.trans (wipe_wipe vs), ?_⟩⟩
        obtain ⟨hH3, hT3⟩ := g3.frm D _ hH2 hT2
        obtain ⟨k, μ4, e6, e3⟩ := noEx_bind e3
        refine ⟨W3, ρ1, μ3, _, ⟨R3, s3⟩, e6, fun W4 H4 g4 R4 => ?_⟩
        obtain ⟨hH4, hT4⟩ := g4.frm D _ hH3 hT3
        have gg4 := (gg2.trans g3).trans g4
        cases k with
        | false =>
          rw [if_neg Bool.false_ne_true] at e3 ⊢
          refine ⟨W4, μ4, acc, us, R4, gg4, hT4, hH4, ra.grow ((g2.trans g3).trans g4), Nat.le_succ_of_le hac, ?_⟩
          rw [bind_ok e3]
          exact e4
        | true =>
          rw [if_pos rfl] at e3 ⊢
          obtain ⟨s, μ5, e7, e3⟩ := noEx_bind e3
          refine ⟨W4, ρ1, μ4, _, ⟨R4, s3.grow g4⟩, e7, fun W5 H5 g5 R5 y ry => ?_⟩
          obtain ⟨hH5, hT5⟩ := g5.frm D _ hH4 hT4
          have gg5 := gg4.trans g5
          rcases bind_some e3 with ⟨r5, μ6, e8, e9⟩ | ⟨c, μ6, e8, e9⟩
          · cases e9
            refine ⟨us, hH5, ?_, ?_⟩
            · rw [ra.len]
              omega
            · refine ⟨W5, μ5, acc ++ [s], us ++ [y], R5.loose hT5, gg5.out hD fun a ha => upd_ne ha, hT5, upd_same, (ra.grow (((g2.trans g3).trans g4).trans g5)).append (.cons ry .nil), ?_, ?_⟩
              · rw [List.length_append]
                exact Nat.succ_le_succ hac
              · rw [bind_ok e8, List.append_assoc]
                exact e4
          · cases e9
      · exact absurd e3 lcL_noex
    · refine .inl ⟨wk.stop i W H μ gr.same R (by omega), ?_⟩
      rw [List.drop_eq_nil_of_le (by omega)] at e
      have e' : mkl m (acc ++ []) μ = some r := e
      rw [List.append_nil] at e'
      have R0 : Rel K W (hideA H D) μ := R.hide hT
      have g0 : Grow W1 H1 μ1 W (hideA H D) μ := gr.out hD fun a ha => hide_ne ha
      have z := mkl_ok R0 hide_self ra e' (q1.later g0)
      rw [hide_upd hH] at z
      exact z
  · exact ⟨W0, ρ0, μ0, _, h0, e1, q0⟩
/-- [elt for tg in iter if ..] -/
theorem x_lc (m : Bool) {elt : Expr} {ifs : List Expr} {scope : Scope} {own : List (Str × Nat)} {C : Rho → M Bool} {Fe : Rho → M Sv} (hc : X.calm = true) (hN : X.N.Nodup) (hi : PIX X E tg iter Fi) (ok : BlkOk X.N X.env.scope scope own)
    (hg : ∀ (s : Shared) (H : Hp) (D : Addr) (cl : List (Str × Addr)) (fp : List Addr), PGW (X.blk s H scope (compEnvC scope cl D X.env) fp) E0 (own.map (·.2)) tg T)
    (ht : ∀ (s : Shared) (H : Hp) (D : Addr) (cl : List (Str × Addr)) (fp : List Addr), PTsX (X.blk s H scope (compEnvC scope cl D X.env) fp) E0 ifs C)
    (he : ∀ (s : Shared) (H : Hp) (D : Addr) (cl : List (Str × Addr)) (fp : List Addr), PX (X.blk s H scope (compEnvC scope cl D X.env) fp) E0 elt Fe) (hs : ∀ x, foldedSetIterable iter X.env x = pure x := by intro _; rfl) :
    PX X E (.ListComp elt [⟨tg, iter, ifs, 0⟩] scope pos) (lcV m (own.map (·.2)) Fi T C Fe) := pe_weak (pe_lc hc hN hi ok hg ht he hs) fun _ _ _ h => lc_ent h
theorem s_setLc (i : Nat) (m : Bool) {y : Str} {py spos : Pos} {elt : Expr} {ifs : List Expr} {scope : Scope} {own : List (Str × Nat)} {C : Rho → M Bool} {Fe : Rho → M Sv} (hc : X.calm = true) (hN : X.N.Nodup) (hsw : swapsWith (.ListComp elt [⟨tg, iter, ifs, 0⟩] scope pos) (some (.Name y py)) spos.line X.env = pure true)
    (hi : PIX X E tg iter Fi) (ok : BlkOk X.N X.env.scope scope own)
    (hg : ∀ (s : Shared) (H : Hp) (D : Addr) (cl : List (Str × Addr)) (fp : List Addr), PGW (X.blk s H scope (compEnvC scope cl D X.env) fp) E0 (own.map (·.2)) tg T)
    (ht : ∀ (s : Shared) (H : Hp) (D : Addr) (cl : List (Str × Addr)) (fp : List Addr), PTsX (X.blk s H scope (compEnvC scope cl D X.env) fp) E0 ifs C)
    (he : ∀ (s : Shared) (H : Hp) (D : Addr) (cl : List (Str × Addr)) (fp : List Addr), PX (X.blk s H scope (compEnvC scope cl D X.env) fp) E0 elt Fe) (hy : X.N[i]? = some y := by rfl) (hyl : X.env.scope.names.lookup y = some .local := by rfl) (hs : ∀ x, foldedSetIterable iter X.env x = pure x := by intro _; rfl) :
    PSX X E (.Assign [.Name y py] (.ListComp elt [⟨tg, iter, ifs, 0⟩] scope pos) spos) (gSet i (lcV m (own.map (·.2)) Fi T C Fe)) :=
  ps_weak (ps_setLc hc hN hy hyl hsw hi ok hg ht he hs) fun D σ H ⟨W, ρ, μ, r, h, e, q⟩ => by
    refine lc_ent (tX_bind h e q fun v s W1 H1 μ1 g1 h1 rs e1 q1 => ?_)
    cases e1
    exact q1 _ _ (Grow.refl _ _ _) h1.rel _ (h1.sl.set i rs)
end
end Pf

namespace Pf
open PySem PySem.Spec PyProof.Rows L2

/-! ### defs, where no repr is under way -/
structure Gk (P : Program) (w : World) (K : PySem.W.Frag) (mg : Str → Option Value) (base : Heap) (CX : CXT) (k : Nat) (f : Addr) (fd : FuncData) (ps : List Str) (sp : Sp) : Prop where
  glen : ∀ vs H Q E, sp vs H Q E → vs.length = ps.length
  grun : ∀ (A : Around) (below : List Env) (s : Shared) (H : Hp) (ar : Args) (us : List Value) (vs : List V) (Q : VK) (E : XK), A.guards = some [] → Room k A → Env0 P w K mg base A below s H → BindsTo s fd ar (ps.zip us) → Vals vs us → sp vs H Q E →
    codeAny (model P w) A (.call (.ref f) ar) (CR CX below P w H s Q E) s
theorem Gk.of {P : Program} {w : World} {K : PySem.W.Frag} {mg : Str → Option Value} {base : Heap} {CX : CXT} {k : Nat} {f : Addr} {fd : FuncData} {ps : List Str} {sp : Sp} (F : FnOk P w K mg base CX k f fd ps sp) : Gk P w K mg base CX k f fd ps sp :=
  ⟨F.len, fun A o s H a us vs Q E _ hr e b r q => F.run A o s H a us vs Q E hr e b r q⟩
theorem Gk.up {P : Program} {w : World} {K : PySem.W.Frag} {mg : Str → Option Value} {base : Heap} {CX : CXT} {k j : Nat} {f : Addr} {fd : FuncData} {ps : List Str} {sp : Sp} (F : Gk P w K mg base CX j f fd ps sp) (h : j ≤ k) : Gk P w K mg base CX k f fd ps sp :=
  ⟨F.glen, fun A o s H a us vs Q E hg hr => F.grun A o s H a us vs Q E hg (hr.mono h)⟩
section
variable {X : Cx} {CX : CXT} {k : Nat} {f : Addr} {fd : FuncData} {ps : List Str} {sp : Sp} {dvs : List V} {ds : List Value} {E : XK} {x : Str} {p pos : Pos} {e : Expr} {es : List Expr}
theorem g_run {pins : List (Addr × Obj)} {σ : L2.St} {H : Hp} {s : Shared} {Q : VK} {us : List Value} {vs : List V} (F : Gk X.prog X.w X.K X.mg X.base CX k f fd ps sp) (hgd : X.A.guards = some []) (hr : Room k X.A) (hb : Binds X.K fd ps ds) (hd : Vals dvs ds) (hx : Passes CX X E)
    (I : Inv X pins σ H s) (r : Vals vs us) (h : sp (vs ++ dvs) H Q E) : wpAny (model X.prog X.w) X.A (call (.ref f) us) (EP X pins σ Q) X.xe s := by
  have rr : Vals (vs ++ dvs) (us ++ ds) := Vals.append r hd
  have ln : (us ++ ds).length = ps.length := (Vals.length rr).symm.trans (F.glen _ _ _ _ h)
  have gr := F.grun X.A X.stack s H ⟨us, []⟩ (us ++ ds) (vs ++ dvs) Q E hgd hr (Inv.env0 I) (hb s us I.kIn ln) rr h
  refine wpAny_call (codeAny_mono gr fun res s1 hc => ?_)
  match res, hc with
  | .error ex, hc => exact hx pins σ H s ex s1 I hc
  | .ok (.ret u), hc => exact Inv.after I hc
/-! ### the promise of a pure reading -/
def spM (K : PySem.W.Frag) (n : Nat) (Fm : List Sv → M Sv) : Sp := fun vs H Q E => vs.length = n ∧ ∃ W μ ss r, Rel K W H μ ∧ SvRs K W μ.length vs ss ∧ Fm ss μ = some r ∧ KoV K E W H μ r Q
def ownV (Fm : List Sv → M Sv) (dd : List PyData) (Fs : Rho → M (List Sv)) (ρ : Rho) : M Sv := (Fs ρ).bind fun ss => Fm (ss ++ dd.map Sv.dat)
theorem x_call {n : Nat} {Fm : List Sv → M Sv} {dd : List PyData} {Fs : Rho → M (List Sv)} (F : Gk X.prog X.w X.K X.mg X.base CX k f fd ps (spM X.K n Fm)) (hgd : X.A.guards = some []) (hr : Room k X.A) (hm : X.mg x = some (.ref f)) (hk : PySem.W.keepIn X.K (.ref f) = true) (hb : Binds X.K fd ps ds) (hd : Vals dvs ds)
    (hdd : ∀ S, Dqs X.K S dvs dd) (hx : Passes CX X E) (ha : PAX X E (e :: es) Fs) (hg : Gl X x := by rfl)
    (hdb : (x == ("__debug__" : Str)) = false := by decide) (he : starEach (e :: es) X.env = (false, eval e X.env) :: starEach es X.env := by rfl) (hpl : (backTo pos (starEach es X.env)).any (·.1) = false := by rfl) :
    PX X E (.Call (.Name x p) (e :: es) [] pos) (fun ρ => (Fs ρ).bind fun ss => if decide (ss.length + dd.length = n) = true then Fm (ss ++ dd.map Sv.dat) else M.fail) := by
  refine ⟨fun pins s σ H Q I ⟨W, ρ, μ, r, h, e, q⟩ => ?_⟩
  refine wpAny_Call_Name_kw (ld_glob I hg hm ?_ hdb)
  refine PySem.W.callWith_K (h₀ := X.base) I.ok.mod.kin hk ?_ he hpl
  have want : tAr X.K E Fs σ H fun vs H1 => spM X.K n Fm (vs ++ dvs) H1 Q E := tAr_bind h e q fun vs ss W1 H1 μ1 g1 h1 rs e1 q1 => by
    obtain ⟨c, e1⟩ := iff_ok e1
    have rd : SvRs X.K W1 μ1.length dvs (dd.map Sv.dat) := rel_dats (hdd _)
    refine ⟨?_, W1, μ1, _, r, h1.rel, rs.append rd, e1, q1⟩
    have l1 := rs.len
    have l2 := rd.len
    rw [List.length_map] at l2
    have c' := of_decide_eq_true c
    rw [List.length_append]
    omega
  exact thn (ha.run pos pins s σ H _ I want) fun us s1 hz => by
    obtain ⟨vs, H1, J, rv, z⟩ := hz
    exact ⟨J.kIn, g_run F hgd hr hb hd hx J rv z⟩
end

/-! ### a def by its body -/
/-- what a body leaves behind the objects that the caller knows -/
def Wf (μ : Mu) : Prop := ∀ (i : Nat) (xs : List Sv), μ[i]? = some (.lst xs) → ∀ t, Sv.ref t ∈ xs → t < μ.length
def fits (n : Nat) : Sv → Prop
  | .ref t => t < n
  | _ => True
def Agree (n : Nat) (r : Res Sv) (r' : Res Out) : Prop := match r, r' with
  | .ok s μ1, .ok (.rt s') μ2 => s = s' ∧ (∃ g, μ2 = μ1 ++ g) ∧ Wf μ1 ∧ n ≤ μ1.length ∧ fits μ1.length s
  | .ok s μ1, .ok (.nx _) μ2 => s = .dat .none ∧ (∃ g, μ2 = μ1 ++ g) ∧ Wf μ1 ∧ n ≤ μ1.length
  | .ex c μ1, .ex c' μ2 => c = c' ∧ (∃ g, μ2 = μ1 ++ g) ∧ Wf μ1 ∧ n ≤ μ1.length ∧ ∀ f s, c.fld = some (f, s) → fits μ1.length s
  | _, _ => False
section
variable {K : PySem.W.Frag} {W W' : Wd} {H H' : Hp} {μ μ1 g : Mu}
theorem rels_mem {n : Nat} {t : Nat} : ∀ {vs : List V} {xs : List Sv}, SvRs K W n vs xs → Sv.ref t ∈ xs → t < n
  | _, _, .nil, h => absurd h List.not_mem_nil
  | _, x :: _, .cons a r, h => by
    rcases List.mem_cons.mp h with z | z
    · rw [← z] at a
      exact a.1
    · exact rels_mem r z
theorem Rel.wf (R : Rel K W H μ) : Wf μ := fun i xs e t ht => by
  obtain ⟨vs, _, r⟩ := R.obj i _ e
  exact rels_mem r ht
theorem sv_cut {n m : Nat} : ∀ {v : V} {s : Sv}, SvR K W n v s → fits m s → SvR K W m v s
  | _, .dat _, h, _ => h
  | _, .ref _, h, z => ⟨z, h.2⟩
  | _, .scr _, h, _ => h
theorem svs_cut {n m : Nat} : ∀ {vs : List V} {xs : List Sv}, SvRs K W n vs xs → (∀ x ∈ xs, fits m x) → SvRs K W m vs xs
  | _, _, .nil, _ => .nil
  | _, _, .cons a r, h => .cons (sv_cut a (h _ List.mem_cons_self)) (svs_cut r fun x hx => h x (List.mem_cons_of_mem _ hx))
theorem pre_get {i : Nat} {o : MObj} (e : μ1[i]? = some o) : (μ1 ++ g)[i]? = some o := by
  rw [List.getElem?_append_left (List.getElem?_eq_some_iff.mp e).1]
  exact e
theorem Rel.cut (R : Rel K W H (μ1 ++ g)) (wf : Wf μ1) : Rel K W H μ1 where
  sub := R.sub
  obj := fun i o e => by
    cases o with
    | gone => trivial
    | lst xs =>
      obtain ⟨vs, h, r⟩ := R.obj i _ (pre_get e)
      exact ⟨vs, h, svs_cut r fun x hx => by
        cases x with
        | ref t => exact wf i xs e t hx
        | _ => trivial⟩
  own := fun i o e ha => R.own i o (pre_get e) ha
  inj := fun i j o o' e e' => R.inj i j o o' (pre_get e) (pre_get e')
theorem Grow.cut (gr : Grow W H μ W' H' (μ1 ++ g)) (hl : μ.length ≤ μ1.length) : Grow W H μ W' H' μ1 :=
  ⟨⟨hl, gr.gr.same, gr.gr.at_⟩, fun a o h l => let ⟨h1, l1⟩ := gr.frm a o h l; ⟨h1, l1.1, fun t ob e ha => l1.2 t ob (pre_get e) ha⟩⟩
/-- what is wanted of the promise's end is wanted of the body's -/
theorem agree_ko {E : XK} {r : Res Sv} {r' : Res Out} {Q : VK} (a : Agree μ.length r r') (q : KoV K E W H μ r Q) : Ko K E W H μ r' (OutOk K { nx := fun _ H' => Q .non H', rt := Q }) := by
  cases r with
  | ok s μ1 =>
    cases r' with
    | ex c μ2 => exact a.elim
    | ok o μ2 =>
      cases o with
      | bk ρ => exact a.elim
      | ct ρ => exact a.elim
      | nx ρ =>
        obtain ⟨rfl, ⟨g, rfl⟩, wf, hl⟩ := a
        exact fun W' H' gr R σ _ => q W' H' (gr.cut hl) (R.cut wf) _ .non
      | rt s' =>
        obtain ⟨rfl, ⟨g, rfl⟩, wf, hl, hs⟩ := a
        exact fun W' H' gr R v rv => q W' H' (gr.cut hl) (R.cut wf) v (sv_cut rv hs)
  | ex c μ1 =>
    cases r' with
    | ok o μ2 => exact a.elim
    | ex c' μ2 =>
      obtain ⟨rfl, ⟨g, rfl⟩, wf, hl, hs⟩ := a
      refine fun W' H' cls d gr R x => q W' H' cls d (gr.cut hl) (R.cut wf) ⟨x.1, ?_⟩
      have x2 := x.2
      cases hf : c.fld with
      | none =>
        rw [hf] at x2
        exact x2
      | some fs =>
        obtain ⟨fn, s⟩ := fs
        rw [hf] at x2
        obtain ⟨dd, v, h1, h2, h3⟩ := x2
        exact ⟨dd, v, h1, h2, sv_cut h3 (hs fn s hf)⟩
end
def ini (N : Nat) (ss : List Sv) : Rho := ss.map some ++ List.replicate (N - ss.length) none
theorem ini_sl {K : PySem.W.Frag} {W : Wd} {n : Nat} {N : List Str} {vs : List V} {ss : List Sv} (h : SvRs K W n vs ss) : Sls K W n (L2.start N vs) (ini N.length ss) := by
  have hl := h.len
  refine ⟨fun i x e => ?_, ?_⟩
  · unfold ini at e
    unfold L2.start
    by_cases hi : i < ss.length
    · rw [List.getElem?_append_left (by rw [List.length_map]; exact hi), List.getElem?_map] at e
      cases q : ss[i]? with
      | none =>
        rw [q] at e
        cases e
      | some y =>
        rw [q] at e
        cases e
        obtain ⟨u, h1, h2⟩ := h.get q
        exact ⟨u, by rw [List.getElem?_append_left (by rw [List.length_map, hl]; exact hi), List.getElem?_map, h1]; rfl, h2⟩
    · rw [List.getElem?_append_right (by rw [List.length_map]; omega), List.getElem?_replicate] at e
      split at e <;> cases e
  · unfold ini L2.start
    rw [List.length_append, List.length_append, List.length_map, List.length_map, List.length_replicate, List.length_replicate, hl]
section
variable {P : Program} {w : World} {K : PySem.W.Frag} {mg : Str → Option Value} {base : Heap} {k : Nat} {f : Addr} {fd : FuncData} {x qual : Str} {st : Stmt} {N ps : List Str}
/-- the context in which a body stands -/
abbrev bx (P : Program) (w : World) (K : PySem.W.Frag) (mg : Str → Option Value) (base : Heap) (N : List Str) (qual : Str) (st : Stmt) (f : Addr) (cdv : Value) (A : Around) (below : List Env) (s : Shared) (H : Hp) (E : XK) : Cx :=
  cxOf (L2.CX P w) P w K mg base N qual (defScope st) f cdv A below s H E
theorem bx_pass {cdv : Value} {A : Around} {below : List Env} {s : Shared} {H : Hp} {E : XK} : Passes (L2.CX P w) (bx P w K mg base N qual st f cdv A below s H E) E := passes_call (takes_of rfl rfl rfl rfl) fun _ _ _ _ h => h
theorem bx_own {cdv : Value} {A : Around} {below : List Env} {s : Shared} {H : Hp} {E : XK} : PassesOwn (model P w) (bx P w K mg base N qual st f cdv A below s H E).A (bx P w K mg base N qual st f cdv A below s H E).env (bx P w K mg base N qual st f cdv A below s H E).xe := passes_of rfl
set_option maxHeartbeats 400000 in
theorem gk_run {sp : Sp} (F : Fun K x qual st f fd) (S : FnScope N ps (defScope st)) (len : ∀ vs H Q E, sp vs H Q E → vs.length = ps.length)
    (body : ∀ (cdv : Value) (A : Around) (below : List Env) (s : Shared) (H : Hp) (vs : List V) (Q : VK) (E : XK), A.guards = some [] → Room k (bx P w K mg base N qual st f cdv A below s H E).A → sp vs H Q E →
      ∃ t, PSs (bx P w K mg base N qual st f cdv A below s H E) (defBody st) t ∧ t { nx := fun _ H' => Q .non H', rt := Q } (L2.start N vs) H) : Gk P w K mg base (L2.CX P w) (k + 1) f fd ps sp := by
  obtain ⟨oc, od, kV, doc, pm, an, cdv, ct, osl, rfl, lk, hcd⟩ := F.ex
  refine ⟨len, fun A below s H ar us vs Q E hgd hr e0 hb rv hsp => ?_⟩
  have ln := len _ _ _ _ hsp
  have inK : K.In s.heap := e0.mod.kin.keeps fun b o e => And.left (e0.bs b o e)
  have roomy : s.heap.NoLimit := e0.mod.nolimit.keeps fun b o e => And.left (e0.bs b o e)
  have kinds : ∀ y ∈ ps.zip us, (defScope st).names.lookup y.1 = some .local ∨ ((defScope st).names.lookup y.1 = some .cell ∧ ((cellsFrom (s.heap.objs.size + 1) (defScope st).names []).lookup y.1).isSome = true) := by
    intro ⟨n, v⟩ hy
    rcases S.par n (List.of_mem_zip hy).1 with z | z
    · exact .inl z
    · exact .inr ⟨z, PySem.W.cellsFrom_some _ _ _ (.inl z)⟩
  refine codeAny_call_function (Room.depth hr) (inK _ _ lk) rfl S.co S.gen rfl (PySem.W.codeRec_of inK hcd) (hb _ _ _ _ ?_)
  refine wpAny_newFunctionEnv_cells S.kind kinds ?_
  intro env he s1 made
  subst he
  refine ⟨roomy.keeps made.toInCall.keep, codeAny_func ?_⟩
  obtain ⟨t, ht, hq⟩ := body cdv A below s H vs Q E hgd (Room.deeper hr _) hsp
  have I0 : Inv (bx P w K mg base N qual st f cdv A below s H E) [] (L2.start N vs) H s1 := inv_start S hr.hd e0 ln rv made
  refine wpAny_mono (ht.run [] s1 (L2.start N vs) H _ I0 hq) ?_ fun _ _ z => z
  intro fl s2 hs
  have done : ∀ {σ' : L2.St} {H' : Hp} {v : V} {u : Value}, Inv (bx P w K mg base N qual st f cdv A below s H E) [] σ' H' s2 → RelV v u → Q v H' → CE below P w H s Q u s2 := fun J rel q => ⟨_, _, J.os, J.bare, J.base, J.hok, rel, q⟩
  cases fl with
  | brk =>
    obtain ⟨_, _, _, z⟩ := hs
    exact z.elim
  | cont =>
    obtain ⟨_, _, _, z⟩ := hs
    exact z.elim
  | ret u =>
    obtain ⟨v, σ', H', J, rel, q⟩ := hs
    exact done J rel q
  | next =>
    obtain ⟨σ', H', J, q⟩ := hs
    exact done (v := V.non) (u := Value.none) J rfl q
/-- THE RULE: a def by the pure reading of its body -/
theorem gk_of {n : Nat} {Fm : List Sv → M Sv} (F : Fun K x qual st f fd) (S : FnScope N ps (defScope st)) (hn : ps.length = n)
    (G : Rho → M Out) (body : ∀ (cdv : Value) (A : Around) (below : List Env) (s : Shared) (H : Hp) (E : XK), A.guards = some [] → Room k (bx P w K mg base N qual st f cdv A below s H E).A → PSSX (bx P w K mg base N qual st f cdv A below s H E) E (defBody st) G)
    (same : ∀ (ss : List Sv) (μ : Mu) (r : Res Sv), ss.length = n → Wf μ → Fm ss μ = some r → ∃ r', G (ini N.length ss) μ = some r' ∧ Agree μ.length r r') : Gk P w K mg base (L2.CX P w) (k + 1) f fd ps (spM K n Fm) := by
  refine gk_run F S (fun vs H Q E h => h.1.trans hn.symm) fun cdv A below s H vs Q E hgd hr ⟨hl, W, μ, ss, r, R, rs, e, q⟩ => ⟨_, body cdv A below s H E hgd hr, ?_⟩
  obtain ⟨r', e', a⟩ := same ss μ r (by rw [← hl, rs.len]) R.wf e
  exact ⟨W, ini N.length ss, μ, r', ⟨R, ini_sl rs⟩, e', agree_ko a q⟩
end
end Pf

namespace Pf
open PySem PySem.Spec PyProof.Rows L2

/-! ### the law's own call, at its one place: no repr is under way there -/
section
variable {P : Program} {w : World} {K : PySem.W.Frag} {mg mb : Str → Option Value} {k : Nat} {fa a : Addr} {fd : FuncData} {x : Str} {sp : Sp} {s₁ : Shared} {vs : List Value} {ns : List Int}
/-- what the end of the whole law says -/
abbrev LawEnd (s₁ : Shared) (r : Result) (s' : Shared) : Prop := r = .ok (.ret (.bool true)) ∧ OldK s₁.heap s'.heap ∧ s'.os = s₁.os ∧ AllBare s'.gens
theorem law_from (KX : K.In s₁.heap) (hns : s₁.heap.Ns mainGlobals mg) (hb : s₁.heap.Ns builtinsNs mb) (hbb : ∀ x : Str, x ≠ "__name__" → mb x = bootBuiltins x) (hlim : s₁.heap.NoLimit) (hg : s₁.gens = #[])
    {own : Obj} (ha : s₁.heap.get? a = some own) (hseq : ∀ es ep, own.data ≠ .dict es ep) (hr : Room k callerA)
    (F : ∀ base : Heap, K.In base → base.Ns mainGlobals mg → Gk P w K mg base (L2.CX P w) k fa fd [x] sp) (hbind : ∀ (s : Shared) (u : Value), BindsTo s fd ⟨[u], []⟩ [(x, u)])
    (H : Hp) (only : Only H) (hok : HOk P w H s₁.heap) (one : ∀ b, H b ≠ none → b = a) (apart : H a ≠ none → K.lookup a = none)
    (hsp : sp [.ref a] H (fun v _ => v = .bl true) fun _ _ _ => False) : codeAny (model P w) callerA (.call (.ref fa) ⟨[.ref a], []⟩) (LawEnd s₁) s₁ := by
  have noDict : ∀ {b : Addr} {o : Obj} {es : Array DictEntry} {ep : Nat}, s₁.heap.get? b = some o → o.data = .dict es ep → H b = none := by
    intro b o es ep e d
    cases q : H b with
    | none => rfl
    | some u =>
      have eb : b = a := one b fun z => by
        rw [q] at z
        cases z
      subst eb
      rw [ha] at e
      cases e
      exact absurd d (hseq es ep)
  have sees : ∀ {b : Addr} {m : Str → Option Value}, s₁.heap.Ns b m → (hidT s₁.heap H).Ns b m := by
    intro b m z
    obtain ⟨o, es, ep, e, d, r⟩ := z
    exact ⟨o, es, ep, hidT_get e (noDict e d), d, r⟩
  have inB : K.In (hidT s₁.heap H) := by
    intro b o e
    refine hidT_get (KX b o e) ?_
    cases q : H b with
    | none => rfl
    | some u =>
      have nn : H b ≠ none := fun z => by
        rw [q] at z
        cases z
      have eb : b = a := one b nn
      rw [eb] at e nn
      rw [apart nn] at e
      cases e
  have lim : (hidT s₁.heap H).NoLimit := by
    obtain ⟨mc, h1, h2⟩ := hlim
    exact ⟨mc, sees h1, h2⟩
  have md : Mod K mg (hidT s₁.heap H) := ⟨inB, sees hns, ⟨mb, sees hb, hbb⟩, lim⟩
  have gone : ∀ b ∈ frs ([] : List Env), H b = none := fun b z => absurd (show b ∈ ([] : List Addr) from z) List.not_mem_nil
  have e0 : Env0 P w K mg (hidT s₁.heap H) callerA [] s₁ H := ⟨rfl, md, fun _ _ e => of_hidT e, Nat.le_of_eq (hidT_size _ _), trivial, gone, hok, .of_eq hg⟩
  have go := (F (hidT s₁.heap H) inB (sees hns)).grun callerA [] s₁ H ⟨[.ref a], []⟩ [.ref a] [.ref a] _ _ rfl hr e0 (hbind s₁ (.ref a)) (.cons rfl .nil) hsp
  refine codeAny_mono go ?_
  intro r s' h
  cases r with
  | error e =>
    obtain ⟨_, _, _, _, _, _, _, _, _, _, _, _, z⟩ := h
    exact z.elim
  | ok fl =>
    cases fl with
    | next => exact False.elim h
    | brk => exact False.elim h
    | cont => exact False.elim h
    | ret u =>
      obtain ⟨v, H', os, bare, un, hok2, rel, q⟩ := h
      have ev : v = .bl true := q
      subst ev
      have eu : u = Value.bool true := rel
      subst eu
      refine ⟨rfl, OldK.of_keep ?_, os, bare⟩
      intro b o e
      cases q : H b with
      | none => exact un.keep b o e q (fun z => absurd (show b ∈ ([] : List Addr) from z) List.not_mem_nil) List.not_mem_nil
      | some u =>
        rcases only b with z | ⟨ob, xs, z⟩
        · rw [q] at z
          cases z
        · obtain ⟨e1, _⟩ := hok b _ z
          obtain ⟨e2, _⟩ := hok2 b _ (un.frzs b ob _ z)
          rw [e] at e1
          cases e1
          exact e2
theorem law_by (KX : K.In s₁.heap) (hns : s₁.heap.Ns mainGlobals mg) (hb : s₁.heap.Ns builtinsNs mb) (hbb : ∀ x : Str, x ≠ "__name__" → mb x = bootBuiltins x) (hlim : s₁.heap.NoLimit) (hg : s₁.gens = #[])
    (ha : s₁.heap.get? a = some { cls := .type "list", data := .seq vs.toArray }) (hi : IntsAre vs ns) (hl : ns.length ≤ sizeLine) (hr : Room k callerA)
    (F : ∀ base : Heap, K.In base → base.Ns mainGlobals mg → Gk P w K mg base (L2.CX P w) k fa fd [x] sp) (hbind : ∀ (s : Shared) (u : Value), BindsTo s fd ⟨[u], []⟩ [(x, u)])
    (hsp : ∀ H : Hp, Only H → SqL K H a (ns.map V.int) → sp [.ref a] H (fun v _ => v = .bl true) fun _ _ _ => False) : codeAny (model P w) callerA (.call (.ref fa) ⟨[.ref a], []⟩) (LawEnd s₁) s₁ := by
  have rv := vals_ints hi
  have nd : ∀ es ep, ({ cls := .type "list", data := .seq vs.toArray } : Obj).data ≠ .dict es ep := fun _ _ z => nomatch z
  cases hk : K.lookup a with
  | some o =>
    have e := KX a o hk
    rw [ha] at e
    cases e
    have sq : SqL K (fun _ => none) a (ns.map V.int) := .inr ⟨_, vs.toArray, _, hk, rfl, rfl, rfl, by rw [List.size_toArray, hi.length]; exact hl, by simpa using rv⟩
    exact law_from KX hns hb hbb hlim hg ha nd hr F hbind (fun _ => none) (fun _ => .inl rfl) (fun _ _ z => nomatch z) (fun _ z => absurd rfl z) (fun z => absurd rfl z) (hsp _ (fun _ => .inl rfl) sq)
  | none =>
    let fz : HO := .frz { cls := .type "list", data := .seq vs.toArray } (.lst (ns.map V.int))
    let H1 : Hp := upd (fun _ => none) a fz
    have at1 : H1 a = some fz := upd_same
    have off : ∀ b, b ≠ a → H1 b = none := fun b hb => upd_ne hb
    have onl : Only H1 := fun b => by
      by_cases eb : b = a
      · exact .inr ⟨_, _, by rw [eb]; exact at1⟩
      · exact .inl (off b eb)
    refine law_from KX hns hb hbb hlim hg ha nd hr F hbind H1 onl (fun b u z => ?_) (fun b z => ?_) (fun _ => hk) (hsp H1 onl (.inl (.inr ⟨_, at1⟩)))
    · by_cases eb : b = a
      · subst eb
        rw [at1] at z
        cases z
        exact ⟨ha, by rw [List.length_map]; exact hl, vs, _, rv, ha⟩
      · rw [off b eb] at z
        cases z
    · by_cases eb : b = a
      · exact eb
      · exact absurd (off b eb) z
end
/-- the goal that k_head leaves -/
theorem law_walk {l : PySem.W.OpenLaw} {n k : Nat} {q : Program} {loose : List Str} {XP : (Str → Option Value) → Heap → Prop} {YP : World → Heap → Prop} {d : DefRec} {K : Params → PySem.W.Frag} {sp : PySem.W.Frag → Sp} {x : Str}
    (hn : l.most = some n) (hn2 : n ≤ sizeLine) (hdf : d.params.defaults = []) (hr : Room k callerA) (hY : ∀ (w : World) (h : Heap), YP w h → (K w.params).In h)
    (F : ∀ (w : World) (mg : Str → Option Value) (fa : Addr) (h : Heap), (K w.params).In h → h.Ns mainGlobals mg → mg d.name = some (.ref fa) →
      ∃ fd : FuncData, (∀ (s : Shared) (u : Value), BindsTo s fd ⟨[u], []⟩ [(x, u)]) ∧ ∀ base : Heap, (K w.params).In base → base.Ns mainGlobals mg → Gk l.prog w (K w.params) mg base (L2.CX l.prog w) k fa fd [x] (sp (K w.params)))
    (hsp : ∀ (K : PySem.W.Frag) (H : Hp) (a : Addr) (ns : List Int), ns.length ≤ n → Only H → SqL K H a (ns.map V.int) → sp K [.ref a] H (fun v _ => v = .bl true) fun _ _ _ => False) :
    PySem.W.WalkO q loose XP YP l.row.toRowW d [] (fun f vs => PySem.call f vs) := by
  refine Att.attach_call hn hdf ?_
  intro w s₀ s₁ mg mb fa o pm cd doc a vs ns G Y ho hd hcd hmg hobj hints hlen hg
  have KX := hY w _ Y
  obtain ⟨fd, hb, hF⟩ := F w mg fa _ KX G.T.g hmg
  exact law_by KX G.T.g G.T.b G.T.builtins G.T.nolimit hg hobj hints (Nat.le_trans hlen hn2) hr hF hb fun H h1 h2 => hsp _ H a ns hlen h1 h2
/-- the law's promise: a pure reading upon the script gives True -/
def spLaw (Fm : List Sv → M Sv) (most : Nat) (K : PySem.W.Frag) : Sp := spM K 1 Fm
theorem spLaw_of {Fm : List Sv → M Sv} {most : Nat} (h : ∀ ns : List Int, ns.length ≤ most → ∃ μ, Fm [.scr ns] [] = some (.ok (.dat (.bool true)) μ)) (K : PySem.W.Frag) (H : Hp) (a : Addr) (ns : List Int) (hl : ns.length ≤ most) (_ : Only H) (hs : SqL K H a (ns.map V.int)) :
    spLaw Fm most K [.ref a] H (fun v _ => v = .bl true) fun _ _ _ => False := by
  obtain ⟨μ, e⟩ := h ns hl
  have R : Rel K ⟨fun _ => 0, H⟩ H [] := ⟨Same.refl _, fun i o e => by simp at e, fun i o e => by simp at e, fun i j o o' e => by simp at e⟩
  refine ⟨rfl, ⟨fun _ => 0, H⟩, [], [.scr ns], _, R, .cons ⟨a, rfl, hs⟩ .nil, e, fun W' H' g R' v rv => ?_⟩
  cases rv
  rfl
end Pf

namespace Pf
open PySem PySem.Spec PyProof.Rows L2
section
variable {X : Cx} {E : XK} {e a b c iter tg : Expr} {es : List Expr} {Fa Fb Fc : Rho → M Sv} {Fs : Rho → M (List Sv)} {pos p tpos : Pos}
def negV (Fa : Rho → M Sv) (ρ : Rho) : M Sv := (Fa ρ).bind fun s => (asI s).bind fun i => M.ret (.dat (.int (-i)))
theorem x_ng (ha : PX X E a Fa) : PX X E (.UnaryOp .USub a pos) (negV Fa) := x_neg ha
/-- a call of a def of one's own, all arguments written -/
def callF (Fm : List Sv → M Sv) (n : Nat) (Fs : Rho → M (List Sv)) (ρ : Rho) : M Sv := (Fs ρ).bind fun ss => if decide (ss.length = n) = true then Fm ss else M.fail
theorem x_call1 {CX : CXT} {k j : Nat} {f : Addr} {fd : FuncData} {ps : List Str} {x : Str} {n : Nat} {Fm : List Sv → M Sv} (F : Gk X.prog X.w X.K X.mg X.base CX j f fd ps (spM X.K n Fm)) (hgd : X.A.guards = some []) (hr : Room k X.A) (hm : X.mg x = some (.ref f)) (hk : PySem.W.keepIn X.K (.ref f) = true) (hb : Binds X.K fd ps [])
    (hx : Passes CX X E) (ha : PAX X E (e :: es) Fs) (hg : Gl X x := by rfl) (hj : j ≤ k := by decide) (hdb : (x == ("__debug__" : Str)) = false := by decide) (he : starEach (e :: es) X.env = (false, eval e X.env) :: starEach es X.env := by rfl) (hpl : (backTo pos (starEach es X.env)).any (·.1) = false := by rfl) :
    PX X E (.Call (.Name x p) (e :: es) [] pos) (callF Fm n Fs) := by
  have z := x_call (p := p) (pos := pos) (dd := []) F hgd (hr.mono hj) hm hk hb .nil (fun _ => .nil) hx ha hg hdb he hpl
  have eq : (fun ρ => (Fs ρ).bind fun ss => if decide (ss.length + ([] : List PyData).length = n) = true then Fm (ss ++ ([] : List PyData).map Sv.dat) else M.fail) = callF Fm n Fs := by
    funext ρ
    show M.bind (Fs ρ) _ = M.bind (Fs ρ) _
    congr 1
    funext ss
    rw [List.map_nil, List.append_nil]
    rfl
  rw [eq] at z
  exact z
/-! ### zip of two lists or two tuples of data -/
def zipD (ds es : List PyData) : List PyData := List.zipWith (fun d e => .tuple [d, e]) ds es
theorem zip_at {ds es : List PyData} {i : Nat} {x : PyData} (h : (zipD ds es)[i]? = some x) : ∃ d e, ds[i]? = some d ∧ es[i]? = some e ∧ x = .tuple [d, e] := by
  unfold zipD at h
  rw [List.getElem?_zipWith] at h
  cases q : ds[i]? with
  | none =>
    rw [q] at h
    simp at h
  | some d =>
    cases q2 : es[i]? with
    | none =>
      rw [q, q2] at h
      simp at h
    | some e =>
      rw [q, q2] at h
      exact ⟨d, e, rfl, rfl, (Option.some.inj h).symm⟩
theorem pair_new {K : PySem.W.Frag} {W1 : Wd} {H : Hp} {μ : Mu} {T : Addr} {x y : V} {d e : PyData} (R : Rel K W1 H μ) (nT : H T = none) (h1 : Dq K W1.S x d) (h2 : Dq K W1.S y e) :
    ∃ W2, Grow W1 H μ W2 (upd H T (.tup [x, y])) μ ∧ Rel K W2 (upd H T (.tup [x, y])) μ ∧ Dq K W2.S (.ref T) (.tuple [d, e]) := by
  have g : Grow W1 H μ (W1.put T (.tup [x, y])) (upd H T (.tup [x, y])) μ := grow_share R nT
  exact ⟨_, g, R.share nT, .tup (SqT.of upd_same) (.cons (Dq.mono g.same h1) (.cons (Dq.mono g.same h2) .nil))⟩
theorem zip_len {ds es : List PyData} {i : Nat} (h : (zipD ds es).length ≤ i) : ds.length ≤ i ∨ es.length ≤ i := by
  unfold zipD at h
  rw [List.length_zipWith] at h
  omega
theorem wk_zip {K : PySem.W.Frag} {W : Wd} {a b : Addr} {vs us : List V} {ds es : List PyData} (h : W.S a = some (.lst vs)) (r : Dqs K W.S vs ds) (h2 : W.S b = some (.lst us)) (r2 : Dqs K W.S us es) : Wk K (Itz K a b) W (zipD ds es) where
  go := fun i d W1 H μ g R e => by
    obtain ⟨d1, d2, e1, e2, rfl⟩ := zip_at e
    obtain ⟨v, a1, _⟩ := r.getD e1
    obtain ⟨u, a2, _⟩ := r2.getD e2
    exact ⟨vs, us, v, u, SqL.of (R.sub _ _ (g _ _ h)), SqL.of (R.sub _ _ (g _ _ h2)), a1, a2⟩
  yld := fun i d W1 H μ x H' g R e y => by
    obtain ⟨d1, d2, e1, e2, rfl⟩ := zip_at e
    obtain ⟨T, x1, x2, rfl, nT, rfl, f1, f2⟩ := y
    obtain ⟨v, a1, q1⟩ := r.getD e1
    obtain ⟨u, a2, q2⟩ := r2.getD e2
    have z1 := f1 vs (SqL.of (R.sub _ _ (g _ _ h)))
    have z2 := f2 us (SqL.of (R.sub _ _ (g _ _ h2)))
    rw [a1] at z1
    rw [a2] at z2
    cases z1
    cases z2
    exact pair_new R nT (Dq.mono g q1) (Dq.mono g q2)
  stop := fun i W1 H μ g R e => ⟨vs, us, SqL.of (R.sub _ _ (g _ _ h)), SqL.of (R.sub _ _ (g _ _ h2)), by rw [r.len, r2.len]; exact zip_len e⟩
theorem wk_zipT {K : PySem.W.Frag} {W : Wd} {a b : Addr} {vs us : List V} {ds es : List PyData} (h : SqT K W.S a vs) (r : Dqs K W.S vs ds) (h2 : SqT K W.S b us) (r2 : Dqs K W.S us es) : Wk K (RZ.ItzT K a b) W (zipD ds es) where
  go := fun i d W1 H μ g R e => by
    obtain ⟨d1, d2, e1, e2, rfl⟩ := zip_at e
    obtain ⟨v, a1, _⟩ := r.getD e1
    obtain ⟨u, a2, _⟩ := r2.getD e2
    exact ⟨vs, us, v, u, seqT_mono R.sub (seqT_mono g h), seqT_mono R.sub (seqT_mono g h2), a1, a2⟩
  yld := fun i d W1 H μ x H' g R e y => by
    obtain ⟨d1, d2, e1, e2, rfl⟩ := zip_at e
    obtain ⟨T, x1, x2, rfl, nT, rfl, f1, f2⟩ := y
    obtain ⟨v, a1, q1⟩ := r.getD e1
    obtain ⟨u, a2, q2⟩ := r2.getD e2
    have z1 := f1 vs (seqT_mono R.sub (seqT_mono g h))
    have z2 := f2 us (seqT_mono R.sub (seqT_mono g h2))
    rw [a1] at z1
    rw [a2] at z2
    cases z1
    cases z2
    exact pair_new R nT (Dq.mono g q1) (Dq.mono g q2)
  stop := fun i W1 H μ g R e => ⟨vs, us, seqT_mono R.sub (seqT_mono g h), seqT_mono R.sub (seqT_mono g h2), by rw [r.len, r2.len]; exact zip_len e⟩
def zipV (Fa Fb : Rho → M Sv) (ρ : Rho) : M (List PyData) := (Fa ρ).bind fun s => (Fb ρ).bind fun t => match s, t with
  | .dat (.list ds), .dat (.list es) => M.ret (zipD ds es)
  | .dat (.tuple ds), .dat (.tuple es) => M.ret (zipD ds es)
  | _, _ => M.fail
theorem i_zip {elts : List Expr} {kk : Nat} (hg : Gl X "zip") (hm : X.mg "zip" = none) (ha : PX X E a Fa) (hb : PX X E b Fb) (hs : starEach [a, b] X.env = (false, eval a X.env) :: starEach [b] X.env := by rfl) (hs2 : starEach [b] X.env = (false, eval b X.env) :: starEach [] X.env := by rfl) (hpl : (backTo pos (starEach [b] X.env)).any (·.1) = false := by rfl) :
    PIX X E (.Tuple elts kk tpos) (.Call (.Name "zip" p) [a, b] [] pos) (zipV Fa Fb) := pi_weak (RZ.pi_zipA hg hm (pa_cons ha (pa_cons hb pa_nil hs2) hs) hs hpl) fun σ H R ⟨W, ρ, μ, r, h, e, q⟩ => by
  refine tX_bind h e q fun v s W1 H1 μ1 g1 h1 rs e1 q1 => tX_bind h1 e1 q1 fun u t W2 H2 μ2 g2 h2 rt e2 q2 => ?_
  have rs' := rs.grow g2
  split at e2
  · cases e2
    cases rs' with
    | lst z1 y1 =>
      cases rt with
      | lst z2 y2 => exact ⟨_, _, _, _, rfl, .inl ⟨SqL.of (h2.rel.sub _ _ z1), SqL.of (h2.rel.sub _ _ z2), q2 _ _ (Grow.refl _ _ _) h2.rel _ (wk_zip z1 y1 z2 y2)⟩⟩
  · cases e2
    cases rs' with
    | tup z1 y1 =>
      cases rt with
      | tup z2 y2 => exact ⟨_, _, _, _, rfl, .inr ⟨seqT_mono h2.rel.sub z1, seqT_mono h2.rel.sub z2, q2 _ _ (Grow.refl _ _ _) h2.rel _ (wk_zipT z1 y1 z2 y2)⟩⟩
  · cases e2
def rngV2 (Fa Fb : Rho → M Sv) (ρ : Rho) : M (List PyData) := (Fa ρ).bind fun s => (asI s).bind fun i => (Fb ρ).bind fun t => (asI t).bind fun j => if (big62 i && big62 j) = true then M.ret (fromTo i (j - i).toNat) else M.fail
theorem big62_ok {i : Int} (h : big62 i = true) : -(2 ^ 62) ≤ i ∧ i < 2 ^ 62 := by
  obtain ⟨c1, c2⟩ := Bool.and_eq_true_iff.mp h
  exact ⟨of_decide_eq_true c1, of_decide_eq_true c2⟩
theorem i_rng2 (hg : Gl X "range") (hm : X.mg "range" = none) (ha : PX X E a Fa) (hb : PX X E b Fb) (hs : starEach [a, b] X.env = (false, eval a X.env) :: starEach [b] X.env := by rfl) (hs2 : starEach [b] X.env = (false, eval b X.env) :: starEach [] X.env := by rfl) (hs3 : starEach [a, b] X.env = [(false, eval a X.env), (false, eval b X.env)] := by rfl) :
    PIX X E tg (.Call (.Name "range" p) [a, b] [] pos) (rngV2 Fa Fb) := pi_weak (pi_range2 hg hm (pa_cons ha (pa_cons hb pa_nil hs2) hs) hs3 hs2) fun σ H R ⟨W, ρ, μ, r, h, e, q⟩ => by
  refine tX_bind h e q fun v s W1 H1 μ1 g1 h1 rs e1 q1 => ?_
  obtain ⟨i, rfl, e1⟩ := asI_bind e1
  refine tX_bind h1 e1 q1 fun u t W2 H2 μ2 g2 h2 rt e2 q2 => ?_
  obtain ⟨j, rfl, e2⟩ := asI_bind e2
  obtain ⟨c, e2⟩ := iff_ok e2
  obtain ⟨c1, c2⟩ := Bool.and_eq_true_iff.mp c
  have b1 := big62_ok c1
  have b2 := big62_ok c2
  cases rs
  cases rt
  cases e2
  exact ⟨i, j, rfl, ⟨b1.1, b1.2, b2.1, b2.2⟩, q2 _ _ (Grow.refl _ _ _) h2.rel _ wk_range⟩
end
end Pf

namespace Pf
open PySem PySem.Spec PyProof.Rows L2

/-! ### a body as its own promise -/
def strip (n : Nat) (G : Rho → M Out) (ss : List Sv) : M Sv := fun μ => match G (ini n ss) μ with
  | some (.ok (.rt s) μ') => some (.ok s μ')
  | some (.ok (.nx _) μ') => some (.ok (.dat .none) μ')
  | some (.ex c μ') => some (.ex c μ')
  | _ => none
section
variable {P : Program} {w : World} {K : PySem.W.Frag} {mg : Str → Option Value} {base : Heap} {k : Nat} {f : Addr} {fd : FuncData} {x qual : Str} {st : Stmt} {N ps : List Str}
theorem strip_ko {K : PySem.W.Frag} {E : XK} {W : Wd} {H : Hp} {μ : Mu} {ρ : Rho} {G : Rho → M Out} {n : Nat} {ss : List Sv} {r : Res Sv} {Q : VK} (e : strip n G ss μ = some r) (q : KoV K E W H μ r Q) :
    ∃ r', G (ini n ss) μ = some r' ∧ Ko K E W H μ r' (OutOk K { nx := fun _ H' => Q .non H', rt := Q }) := by
  unfold strip at e
  split at e
  · rename_i s μ' eg
    cases e
    exact ⟨_, eg, q⟩
  · rename_i ρ' μ' eg
    cases e
    exact ⟨_, eg, fun W' H' g R σ _ => q W' H' g R _ .non⟩
  · rename_i c μ' eg
    cases e
    exact ⟨_, eg, q⟩
  · cases e
theorem gk_strip {n : Nat} {l : Nat} (F : Fun K x qual st f fd) (S : FnScope N ps (defScope st)) (hn : ps.length = n) (hl : N.length = l)
    (G : Rho → M Out) (body : ∀ (cdv : Value) (A : Around) (below : List Env) (s : Shared) (H : Hp) (E : XK), A.guards = some [] → Room k (bx P w K mg base N qual st f cdv A below s H E).A → PSSX (bx P w K mg base N qual st f cdv A below s H E) E (defBody st) G) :
    Gk P w K mg base (L2.CX P w) (k + 1) f fd ps (spM K n (strip l G)) := by
  refine gk_run F S (fun vs H Q E h => h.1.trans hn.symm) fun cdv A below s H vs Q E hgd hr ⟨hvl, W, μ, ss, r, R, rs, e, q⟩ => ⟨_, body cdv A below s H E hgd hr, ?_⟩
  subst hl
  obtain ⟨r', e', q'⟩ := strip_ko (ρ := []) e q
  exact ⟨W, ini N.length ss, μ, r', ⟨R, ini_sl rs⟩, e', q'⟩
end
theorem strip_rt {n : Nat} {G : Rho → M Out} {ss : List Sv} {μ μ' : Mu} {s : Sv} (h : G (ini n ss) μ = some (.ok (.rt s) μ')) : strip n G ss μ = some (.ok s μ') := by
  unfold strip
  rw [h]

/-! ### running -/
theorem set_at {α : Type} {m : M α} {μ : Mu} : M.bind m M.ret μ = m μ := by
  unfold M.bind
  cases m μ with
  | none => rfl
  | some r => cases r <;> rfl
theorem lcL_map {T : Sv → Rho → M Rho} {Fe : Rho → M Sv} {ρ : Rho} {μ : Mu} (g : PyData → Sv) : ∀ {ds : List PyData}, (∀ d ∈ ds, ∃ ρ1, T (.dat d) ρ μ = some (.ok ρ1 μ) ∧ Fe ρ1 μ = some (.ok (g d) μ)) → lcL T yes Fe ds ρ μ = some (.ok (ds.map g) μ)
  | [], _ => rfl
  | d :: ds, h => by
    obtain ⟨ρ1, e1, e2⟩ := h d List.mem_cons_self
    have ih := lcL_map g (ds := ds) (T := T) (Fe := Fe) (ρ := ρ) (μ := μ) fun d hd => h d (List.mem_cons_of_mem _ hd)
    simp only [lcL, M.bind, noEx, e1, yes, M.ret, e2, if_true, ih, List.map_cons]

/-! ### the deck -/
def Gdeck : Rho → M Out :=
  (gRet (lstV true (argC (lcV true [1] (seqV (slV false (slot 0) noPart (aPart (con (.int 63))))) (gNm 1) yes (callV bAbs (argC (slot 1) argN))) (argC (con (.int 0)) argN))))
def Gdraw : Rho → M Out :=
  (gSeq (gAsg (bin (pAdd false) (bin pIx (slot 0) (con (.int 1))) (con (.int 1))) (gSt (slot 0) (con (.int 1))))
  (gSeq (gAsg (tupV (argC (con (.int 0)) (argC (negV (con (.int 1))) argN))) (gTp 2 (gsCons (gNm 2) (gsCons (gNm 3) gsNil))))
  (gSeq (gIf (tst (bin pGt (callV bLen (argC (bin pIx (slot 0) (con (.int 0))) argN)) (con (.int 0))))
  (gSeq (gSet 3 (bin pMod (bin pIx (slot 0) (con (.int 1))) (callV bLen (argC (bin pIx (slot 0) (con (.int 0))) argN))))
  (gSet 2 (bin pIx (bin pIx (slot 0) (con (.int 0))) (slot 3))))
  gSkip)
  (gSeq (gIf (tst (bin pGe (slot 2) (bin pPow (con (.int 10)) (con (.int 18)))))
  (gSeq (gAsg (bin pFdiv (slot 2) (slot 1)) (gSt (bin pIx (slot 0) (con (.int 0))) (slot 3)))
  (gRet (bin pMod (slot 2) (slot 1))))
  gSkip)
  (gRet (bin pMod (bin pFdiv (bin pMod (bin pPow (bin (pAdd false) (bin (pAdd false) (bin pMod (slot 2) (con (.int 2147483587))) (bin (pMul false) (con (.int 7919)) (bin pIx (slot 0) (con (.int 1))))) (con (.int 1))) (con (.int 5))) (con (.int 2147483647))) (con (.int 7))) (slot 1)))))))

def Fdeck : List Sv → M Sv := strip 2 Gdeck
def Fdraw : List Sv → M Sv := strip 4 Gdraw
abbrev svI (i : Int) : Sv := .dat (.int i)
def deckMu (cs : List Int) (n : Int) (rest : Mu) : Mu := .lst (cs.map svI) :: .lst [.ref 0, svI n] :: rest
structure Deck (n : Int) (rest μ : Mu) : Prop where
  ex : ∃ cs : List Int, cs.length ≤ 63 ∧ (∀ c ∈ cs, 0 ≤ c) ∧ μ = deckMu cs n rest
theorem deck_made (ns : List Int) (h : ns.length ≤ 63) : ∃ μ, Fdeck [.scr ns] [] = some (.ok (.ref 1) μ) ∧ Deck 0 [] μ := by
  have hcut : cutL ns none (some 63) = ns := by
    unfold cutL
    rw [HT.sIx_none]
    show (ns.drop 0).take (HT.sIx ns.length ns.length (some ((63 : Nat) : Int)) - 0) = ns
    rw [HT.sIx_nat, List.drop_zero]
    exact List.take_of_length_le (by omega)
  let ds := ns.map fun n => PyData.int n
  have e1 : dats (ns.map fun n => Sv.dat (.int n)) = some ds := by
    have := dats_map ds
    rw [List.map_map] at this
    exact this
  have e2 : lcL (gNm 1) yes (callV bAbs (argC (slot 1) argN)) ds (wipeR [some (.scr ns), none] [1]) [] = some (.ok (ds.map fun d => match d with | .int i => svI (if i < 0 then -i else i) | _ => svI 0) []) := by
    refine lcL_map _ fun d hd => ?_
    obtain ⟨i, _, rfl⟩ := List.mem_map.mp hd
    exact ⟨_, rfl, rfl⟩
  have e3 : (ds.map fun d => match d with | .int i => svI (if i < 0 then -i else i) | _ => svI 0) = (ns.map fun i => if i < 0 then -i else i).map svI := by
    rw [List.map_map, List.map_map]
    rfl
  have sz : szOk ds.length = true := decide_eq_true (by rw [List.length_map]; omega)
  have e : Gdeck [some (.scr ns), none] [] = some (.ok (.rt (.ref 1)) (deckMu (ns.map fun i => if i < 0 then -i else i) 0 [])) := by
    simp only [Gdeck, gRet, lstV, argC, lcV, seqV, slV, slot, noPart, aPart, con, asI, M.bind, M.ret, pSl, hcut, mkl, e1, Option.map, seqOf, List.getElem?_cons_zero, sz, if_true, e2, e3, argN, List.length_cons, List.length_nil]
    rfl
  refine ⟨_, strip_rt e, ⟨_, by rw [List.length_map]; exact h, fun c hc => ?_, rfl⟩⟩
  obtain ⟨i, _, rfl⟩ := List.mem_map.mp hc
  split <;> omega
end Pf

namespace Pf
open PySem PySem.Spec PyProof.Rows L2
/-! ### evaluation by simp -/
theorem atI_0 {α : Type} (x : α) (r : List α) : atI (x :: r) 0 = some x := by
  have := atI_nat (xs := x :: r) (j := 0) (v := x) rfl
  exact this
theorem atI_1 {α : Type} (x y : α) (r : List α) : atI (x :: y :: r) 1 = some y := atI_nat (xs := x :: y :: r) (j := 1) (v := y) rfl
theorem atI_2 {α : Type} (x y z : α) (r : List α) : atI (x :: y :: z :: r) 2 = some z := atI_nat (xs := x :: y :: z :: r) (j := 2) (v := z) rfl
theorem atI_3 {α : Type} (x y z u : α) (r : List α) : atI (x :: y :: z :: u :: r) 3 = some u := atI_nat (xs := x :: y :: z :: u :: r) (j := 3) (v := u) rfl
theorem atI_back {α : Type} (xs : List α) (x : α) : atI (xs ++ [x]) (-1) = some x := atI_last xs x
theorem atI_lt {α : Type} {xs : List α} {i : Int} (h0 : 0 ≤ i) (h1 : i < xs.length) : ∃ x, xs[i.toNat]? = some x ∧ atI xs i = some x := by
  have hi : i.toNat < xs.length := by omega
  refine ⟨xs[i.toNat], List.getElem?_eq_getElem hi, ?_⟩
  have := atI_nat (List.getElem?_eq_getElem hi)
  rw [Int.toNat_of_nonneg h0] at this
  exact this
theorem ixN_lt {n : Nat} {i : Int} (h0 : 0 ≤ i) (h1 : i < n) : ixN n i = some i.toNat := by
  unfold ixN
  rw [if_pos h0, if_pos h1]
theorem fail_at {α : Type} (μ : Mu) : (M.fail : M α) μ = none := rfl
theorem ret_at {α : Type} (a : α) (μ : Mu) : M.ret a μ = some (.ok a μ) := rfl
theorem iteM {α : Type} {c : Prop} [Decidable c] (m m' : M α) (μ : Mu) : (if c then m else m') μ = if c then m μ else m' μ := by
  by_cases h : c
  · rw [if_pos h, if_pos h]
  · rw [if_neg h, if_neg h]
/-- a statement of a row: this ends so -/
theorem seq_at {G G' : Rho → M Out} {ρ ρ' : Rho} {μ μ' : Mu} (h : G ρ μ = some (.ok (.nx ρ') μ')) : gSeq G G' ρ μ = G' ρ' μ' := by
  unfold gSeq M.bind
  rw [h]
theorem seq_rt {G G' : Rho → M Out} {ρ : Rho} {μ μ' : Mu} {s : Sv} (h : G ρ μ = some (.ok (.rt s) μ')) : gSeq G G' ρ μ = some (.ok (.rt s) μ') := by
  unfold gSeq M.bind
  rw [h]
  rfl
theorem if_t {F : Rho → M Bool} {G G' : Rho → M Out} {ρ : Rho} {μ μ' : Mu} (h : F ρ μ = some (.ok true μ')) : gIf F G G' ρ μ = G ρ μ' := by
  unfold gIf M.bind
  rw [h]
  rfl
theorem if_f {F : Rho → M Bool} {G G' : Rho → M Out} {ρ : Rho} {μ μ' : Mu} (h : F ρ μ = some (.ok false μ')) : gIf F G G' ρ μ = G' ρ μ' := by
  unfold gIf M.bind
  rw [h]
  rfl
theorem bin_at {op : Sv → Sv → M Sv} {Fa Fb : Rho → M Sv} {ρ : Rho} {μ μ1 μ2 : Mu} {a b : Sv} (h1 : Fa ρ μ = some (.ok a μ1)) (h2 : Fb ρ μ1 = some (.ok b μ2)) : bin op Fa Fb ρ μ = op a b μ2 := by
  unfold bin
  rw [bind_ok h1, bind_ok h2]
theorem gset_at {i : Nat} {Fa : Rho → M Sv} {ρ : Rho} {μ μ' : Mu} {s : Sv} (h : Fa ρ μ = some (.ok s μ')) : gSet i Fa ρ μ = some (.ok (.nx (ρ.set i (some s))) μ') := by
  unfold gSet
  rw [bind_ok h]
  rfl
theorem ret_gives {Fa : Rho → M Sv} {ρ : Rho} {μ μ' : Mu} {s : Sv} (h : Fa ρ μ = some (.ok s μ')) : gRet Fa ρ μ = some (.ok (.rt s) μ') := by
  unfold gRet
  rw [bind_ok h]
  rfl
/-! ### the draws -/
theorem draw_tail {cell n L : Int} {cs : List Int} {rest : Mu} (i : Sv) (hc : 0 ≤ cell) (h0 : 0 ≤ n) (h1 : n < 10 ^ 12) (hL : 0 < L) :
    ∃ r, (gRet (bin pMod (bin pFdiv (bin pMod (bin pPow (bin (pAdd false) (bin (pAdd false) (bin pMod (slot 2) (con (.int 2147483587))) (bin (pMul false) (con (.int 7919)) (bin pIx (slot 0) (con (.int 1))))) (con (.int 1))) (con (.int 5))) (con (.int 2147483647))) (con (.int 7))) (slot 1)))
      [some (.ref 1), some (svI L), some (svI cell), some i] (deckMu cs n rest) = some (.ok (.rt (svI r)) (deckMu cs n rest)) ∧ 0 ≤ r ∧ r < L := by
  have b1 : 0 ≤ cell % 2147483587 := Int.emod_nonneg _ (by decide)
  have b2 : cell % 2147483587 < 2147483587 := Int.emod_lt_of_pos _ (by decide)
  have c1 : (small 7919 || small n) = true := rfl
  have c2 : (decide ((0 : Int) ≤ 5) && decide ((5 : Int) ≤ 1000000) && decide ((cell % 2147483587 + 7919 * n + 1).natAbs < 2 ^ 64)) = true := by
    have : (cell % 2147483587 + 7919 * n + 1).natAbs < 2 ^ 64 := by omega
    rw [decide_eq_true this]
    rfl
  have c3 : decide (0 < L) = true := decide_eq_true hL
  refine ⟨(cell % 2147483587 + 7919 * n + 1) ^ (5 : Int).toNat % 2147483647 / 7 % L, ?_, Int.emod_nonneg _ (by omega), Int.emod_lt_of_pos _ hL⟩
  simp only [gRet, bin, slot, con, pMod, pFdiv, pPow, pAdd, pMul, pIx, lsOf, M.bind, List.getElem?_cons_succ, List.getElem?_cons_zero, svI, deckMu, orFail, c1, c2, c3, atI_1, if_true, Option.map, decide_true, Bool.and_self, ite_true, Int.reduceLT, iteM, ret_at]
theorem draw_head {n L : Int} {cs : List Int} {rest : Mu} : ((gAsg (bin (pAdd false) (bin pIx (slot 0) (con (.int 1))) (con (.int 1))) (gSt (slot 0) (con (.int 1))))) [some (.ref 1), some (svI L), none, none] (deckMu cs n rest) =
    some (.ok (.nx [some (.ref 1), some (svI L), none, none]) (deckMu cs (n + 1) rest)) := rfl
theorem draw_ok {n L : Int} {rest μ : Mu} (D : Deck n rest μ) (h0 : 0 ≤ n) (h1 : n < 10 ^ 11) (hL : 0 < L) (hL2 : L < 1073741824) :
    ∃ r μ', Fdraw [.ref 1, svI L] μ = some (.ok (svI r) μ') ∧ 0 ≤ r ∧ r < L ∧ Deck (n + 1) rest μ' := by
  obtain ⟨cs, hl, hp, rfl⟩ := D.ex
  have c3 : decide (0 < L) = true := decide_eq_true hL
  have c4 : decide (L < 1073741824) = true := decide_eq_true hL2
  suffices h : ∃ r cs', Gdraw [some (.ref 1), some (svI L), none, none] (deckMu cs n rest) = some (.ok (.rt (svI r)) (deckMu cs' (n + 1) rest)) ∧ 0 ≤ r ∧ r < L ∧ cs'.length ≤ 63 ∧ ∀ c ∈ cs', 0 ≤ c by
    obtain ⟨r, cs', e, a, b, c, d⟩ := h
    exact ⟨r, _, strip_rt e, a, b, ⟨cs', c, d, rfl⟩⟩
  unfold Gdraw
  rw [seq_at draw_head]
  refine (?_ : ∃ r cs', gSeq _ _ _ _ = _ ∧ _)
  have tst0 : ∀ ρ : Rho, ∀ l s t, (tst (bin pGt (callV bLen (argC (bin pIx (slot 0) (con (.int 0))) argN)) (con (.int 0)))) [some (.ref 1), l, s, t] (deckMu cs (n + 1) rest) = some (.ok (decide (0 < (cs.length : Int))) (deckMu cs (n + 1) rest)) := fun ρ l s t => by
    simp only [tst, bin, callV, argC, argN, bLen, pGt, pCmp, slot, con, pIx, lsOf, M.bind, List.getElem?_cons_succ, List.getElem?_cons_zero, svI, deckMu, orFail, atI_0, Option.map, ret_at, List.length_map, asB]
  have pair : ∀ l s t, ((gAsg (tupV (argC (con (.int 0)) (argC (negV (con (.int 1))) argN))) (gTp 2 (gsCons (gNm 2) (gsCons (gNm 3) gsNil))))) [some (.ref 1), l, s, t] (deckMu cs (n + 1) rest) = some (.ok (.nx [some (.ref 1), l, some (svI 0), some (svI (-1))]) (deckMu cs (n + 1) rest)) := fun _ _ _ => rfl
  have ge18 : ∀ l t c, (tst (bin pGe (slot 2) (bin pPow (con (.int 10)) (con (.int 18))))) [some (.ref 1), l, some (svI c), t] (deckMu cs (n + 1) rest) = some (.ok (decide (10 ^ 18 ≤ c)) (deckMu cs (n + 1) rest)) := fun l t c => rfl
  rw [seq_at (pair _ _ _)]
  by_cases he : cs = []
  · subst he
    have t0 := tst0 [] (some (svI L)) (some (svI 0)) (some (svI (-1)))
    rw [seq_at (ρ' := [some (.ref 1), some (svI L), some (svI 0), some (svI (-1))]) (μ' := deckMu [] (n + 1) rest) (by rw [if_f t0]; rfl)]
    rw [seq_at (ρ' := [some (.ref 1), some (svI L), some (svI 0), some (svI (-1))]) (μ' := deckMu [] (n + 1) rest) (by rw [if_f (ge18 _ _ _)]; rfl)]
    obtain ⟨r, e, a, b⟩ := draw_tail (cell := 0) (n := n + 1) (L := L) (cs := []) (rest := rest) (svI (-1)) (by decide) (by omega) (by omega) hL
    exact ⟨r, [], e, a, b, by simp, fun _ z => nomatch z⟩
  · have hpos : 0 < cs.length := List.length_pos_iff.mpr he
    have cpos : decide (0 < (cs.length : Int)) = true := decide_eq_true (by omega)
    have i0 : 0 ≤ (n + 1) % (cs.length : Int) := Int.emod_nonneg _ (by omega)
    have i1 : (n + 1) % (cs.length : Int) < cs.length := Int.emod_lt_of_pos _ (by omega)
    obtain ⟨cell, g1, g2⟩ := atI_lt (xs := cs) i0 i1
    have hcell : 0 ≤ cell := hp _ (List.mem_of_getElem? g1)
    have g3 : atI (cs.map svI) ((n + 1) % (cs.length : Int)) = some (svI cell) := by
      unfold atI at g2 ⊢
      rw [List.length_map]
      rw [ixN_lt i0 i1] at g2 ⊢
      show (cs.map svI)[_]? = _
      rw [List.getElem?_map, g1]
      rfl
    have t0 := tst0 [] (some (svI L)) (some (svI 0)) (some (svI (-1)))
    rw [cpos] at t0
    rw [seq_at (ρ' := [some (.ref 1), some (svI L), some (svI cell), some (svI ((n + 1) % (cs.length : Int)))]) (μ' := deckMu cs (n + 1) rest) (by
      rw [if_t t0]
      simp only [gSeq, gSet, bin, callV, argC, argN, bLen, pMod, slot, con, pIx, lsOf, M.bind, List.getElem?_cons_succ, List.getElem?_cons_zero, svI, deckMu, orFail, atI_0, atI_1, Option.map, ret_at, List.length_map, iteM, cpos, ite_true, List.set_cons_succ, List.set_cons_zero]
      rw [show List.map (fun i => Sv.dat (PyData.int i)) cs = cs.map svI from rfl, g3])]
    by_cases hb : 10 ^ 18 ≤ cell
    · have gg := ge18 (some (svI L)) (some (svI ((n + 1) % (cs.length : Int)))) cell
      rw [decide_eq_true hb] at gg
      refine ⟨cell % L, cs.set ((n + 1) % (cs.length : Int)).toNat (cell / L), ?_, Int.emod_nonneg _ (by omega), Int.emod_lt_of_pos _ hL, by rw [List.length_set]; exact hl, fun c hc => ?_⟩
      · refine seq_rt ?_
        rw [if_t gg]
        have e1 : ((gAsg (bin pFdiv (slot 2) (slot 1)) (gSt (bin pIx (slot 0) (con (.int 0))) (slot 3)))) [some (.ref 1), some (svI L), some (svI cell), some (svI ((n + 1) % (cs.length : Int)))] (deckMu cs (n + 1) rest) =
            some (.ok (.nx [some (.ref 1), some (svI L), some (svI cell), some (svI ((n + 1) % (cs.length : Int)))]) (deckMu (cs.set ((n + 1) % (cs.length : Int)).toNat (cell / L)) (n + 1) rest)) := by
          have hix : ixN (cs.map svI).length ((n + 1) % (cs.length : Int)) = some ((n + 1) % (cs.length : Int)).toNat := by
            rw [List.length_map]
            exact ixN_lt i0 i1
          simp only [gAsg, gSt, bin, pFdiv, slot, con, pIx, lsOf, M.bind, List.getElem?_cons_succ, List.getElem?_cons_zero, svI, deckMu, orFail, atI_0, Option.map, ret_at, iteM, c3, c4, Bool.and_self, ite_true, asI, tagOf, wrt]
          rw [show List.map (fun i => Sv.dat (PyData.int i)) cs = cs.map svI from rfl, hix]
          simp only [List.set_cons_zero, List.map_set]
        rw [seq_at e1]
        simp only [gRet, bin, pMod, slot, M.bind, List.getElem?_cons_succ, List.getElem?_cons_zero, svI, ret_at, iteM, c3, ite_true]
      · rcases List.mem_or_eq_of_mem_set hc with z | z
        · exact hp _ z
        · rw [z]
          exact Int.ediv_nonneg hcell (by omega)
    · have gg := ge18 (some (svI L)) (some (svI ((n + 1) % (cs.length : Int)))) cell
      rw [decide_eq_false hb] at gg
      rw [seq_at (ρ' := [some (.ref 1), some (svI L), some (svI cell), some (svI ((n + 1) % (cs.length : Int)))]) (μ' := deckMu cs (n + 1) rest) (by rw [if_f gg]; rfl)]
      obtain ⟨r, e, a, b⟩ := draw_tail (cell := cell) (n := n + 1) (L := L) (cs := cs) (rest := rest) (svI ((n + 1) % (cs.length : Int))) hcell (by omega) (by omega) hL
      exact ⟨r, cs, e, a, b, hl, hp⟩
end Pf

namespace Pf
open PySem PySem.Spec PyProof.Rows L2
def Gtree : Rho → M Out :=
  (gSeq (gSet 2 (bin pIx (lstV false (argC (bin (pAdd false) (con (.int 1)) (callF Fdraw 2 (argC (slot 0) (argC (slot 1) argN)))) (argC (slot 1) argN))) (callF Fdraw 2 (argC (slot 0) (argC (con (.int 2)) argN)))))
  (gSeq (gPar3 4 5 6 (argC (callF Fdraw 2 (argC (slot 0) (argC (con (.int 4)) argN))) (argC (bin pIx (lstV false (argC (con (.int 1)) (argC (con (.int 3)) (argC (con (.int 9)) (argC (bin pPow (con (.int 10)) (con (.int 6))) argN))))) (callF Fdraw 2 (argC (slot 0) (argC (con (.int 4)) argN)))) (argC (tupV argN) argN))))
  (gSeq (gFor (rngV (bin pSub (slot 2) (con (.int 1)))) (gNm 3)
  (gSeq (gSet 7 (bin pIx (lstV false (argC (callF Fdraw 2 (argC (slot 0) (argC (bin (pAdd false) (slot 3) (con (.int 1))) argN))) (argC (slot 3) (argC (con (.int 0)) (argC (callV bMax2 (argC (con (.int 0)) (argC (bin pSub (slot 3) (con (.int 1))) argN))) argN))))) (slot 4)))
  (gSet 6 (bin (pAdd false) (slot 6) (tupV (argC (tupV (argC (slot 7) (argC (bin (pAdd false) (con (.int 1)) (callF Fdraw 2 (argC (slot 0) (argC (slot 5) argN)))) argN))) argN))))))
  (gRet (slot 6)))))
def Gsame : Rho → M Out :=
  (gRet (bin pEq (callV bRepr (argC (slot 0) argN)) (callV bRepr (argC (slot 1) argN))))

def Ftree : List Sv → M Sv := strip 8 Gtree
def Fsame : List Sv → M Sv := strip 2 Gsame
/-! ### trees -/
def rowD (r : Int × Int) : PyData := .tuple [.int r.1, .int r.2]
def treeD (rows : List (Int × Int)) : PyData := .tuple (rows.map rowD)
def TreeOk (rows : List (Int × Int)) : Prop := ∀ (k : Nat) (r : Int × Int), rows[k]? = some r → 0 ≤ r.1 ∧ r.1 ≤ k ∧ 1 ≤ r.2 ∧ r.2 ≤ 1000000
theorem TreeOk.nil : TreeOk [] := fun k r h => by simp at h
theorem TreeOk.snoc {rows : List (Int × Int)} {p l : Int} (h : TreeOk rows) (a : 0 ≤ p) (b : p ≤ rows.length) (c : 1 ≤ l) (d : l ≤ 1000000) : TreeOk (rows ++ [(p, l)]) := fun k r e => by
  by_cases hk : k < rows.length
  · rw [List.getElem?_append_left hk] at e
    exact h k r e
  · have hk2 : k < (rows ++ [(p, l)]).length := (List.getElem?_eq_some_iff.mp e).1
    rw [List.length_append, List.length_singleton] at hk2
    have : k = rows.length := by omega
    subst this
    rw [List.getElem?_append_right (Nat.le_refl _), Nat.sub_self] at e
    cases e
    exact ⟨a, b, c, d⟩
theorem four {i : Int} (h0 : 0 ≤ i) (h1 : i < 4) : i = 0 ∨ i = 1 ∨ i = 2 ∨ i = 3 := by omega
theorem two {i : Int} (h0 : 0 ≤ i) (h1 : i < 2) : i = 0 ∨ i = 1 := by omega
abbrev treeTurn : Rho → M Out := (gSeq (gSet 7 (bin pIx (lstV false (argC (callF Fdraw 2 (argC (slot 0) (argC (bin (pAdd false) (slot 3) (con (.int 1))) argN))) (argC (slot 3) (argC (con (.int 0)) (argC (callV bMax2 (argC (con (.int 0)) (argC (bin pSub (slot 3) (con (.int 1))) argN))) argN))))) (slot 4)))
  (gSet 6 (bin (pAdd false) (slot 6) (tupV (argC (tupV (argC (slot 7) (argC (bin (pAdd false) (con (.int 1)) (callF Fdraw 2 (argC (slot 0) (argC (slot 5) argN)))) argN))) argN)))))
theorem tree_turn {n : Int} {rest μ : Mu} {most count way long : Int} {rows : List (Int × Int)} {y7 : Option Sv} (D : Deck n rest μ) (h0 : 0 ≤ n) (h1 : n < 10 ^ 10) (hw : 0 ≤ way) (hw2 : way < 4) (hl : 1 ≤ long) (hl2 : long ≤ 1000000) (ok : TreeOk rows) (hr : rows.length ≤ 100) :
    ∃ p l μ', treeTurn [some (.ref 1), some (svI most), some (svI count), some (svI (rows.length : Nat)), some (svI way), some (svI long), some (.dat (treeD rows)), y7] μ =
      some (.ok (.nx [some (.ref 1), some (svI most), some (svI count), some (svI (rows.length : Nat)), some (svI way), some (svI long), some (.dat (treeD (rows ++ [(p, l)]))), some (svI p)]) μ') ∧ TreeOk (rows ++ [(p, l)]) ∧ Deck (n + 2) rest μ' := by
  obtain ⟨a, μ1, e1, a0, a1, D1⟩ := draw_ok D h0 (by omega) (L := (rows.length : Nat) + 1) (by omega) (by omega)
  obtain ⟨b, μ2, e2, b0, b1, D2⟩ := draw_ok D1 (by omega) (by omega) (L := long) (by omega) (by omega)
  have D3 : Deck (n + 2) rest μ2 := by
    have : n + 1 + 1 = n + 2 := by omega
    rw [← this]
    exact D2
  have fin : ∀ p : Int, 0 ≤ p → p ≤ rows.length → (gSet 6 (bin (pAdd false) (slot 6) (tupV (argC (tupV (argC (slot 7) (argC (bin (pAdd false) (con (.int 1)) (callF Fdraw 2 (argC (slot 0) (argC (slot 5) argN)))) argN))) argN))))
      [some (.ref 1), some (svI most), some (svI count), some (svI (rows.length : Nat)), some (svI way), some (svI long), some (.dat (treeD rows)), some (svI p)] μ1 =
      some (.ok (.nx [some (.ref 1), some (svI most), some (svI count), some (svI (rows.length : Nat)), some (svI way), some (svI long), some (.dat (treeD (rows ++ [(p, 1 + b)]))), some (svI p)]) μ2) := fun p p0 p1 => by
    have sz : szOk ((rows.map rowD).length + 1) = true := decide_eq_true (by rw [List.length_map]; omega)
    have sz2 : szOk 2 = true := rfl
    have sz1 : szOk 1 = true := rfl
    simp only [gSet, bin, slot, con, pAdd, tupV, argC, argN, callF, M.bind, ret_at, List.getElem?_cons_succ, List.getElem?_cons_zero, iteM, e2, List.length_cons, List.length_nil, Nat.zero_add, Nat.reduceAdd, decide_true, ite_true, mkt, dats, Option.map, treeD, sz, sz1, sz2, List.set_cons_succ, List.set_cons_zero, List.map_append, List.map_cons, List.map_nil, rowD]
  have lst : (lstV false (argC (callF Fdraw 2 (argC (slot 0) (argC (bin (pAdd false) (slot 3) (con (.int 1))) argN))) (argC (slot 3) (argC (con (.int 0)) (argC (callV bMax2 (argC (con (.int 0)) (argC (bin pSub (slot 3) (con (.int 1))) argN))) argN)))))
      [some (.ref 1), some (svI most), some (svI count), some (svI (rows.length : Nat)), some (svI way), some (svI long), some (.dat (treeD rows)), y7] μ =
      some (.ok (.dat (.list [.int a, .int (rows.length : Nat), .int 0, .int (if (rows.length : Nat) - (1 : Int) > 0 then (rows.length : Nat) - 1 else 0)])) μ1) := by
    have sz4 : szOk 4 = true := rfl
    simp only [lstV, bin, slot, con, pAdd, pSub, argC, argN, callF, callV, bMax2, M.bind, ret_at, List.getElem?_cons_succ, List.getElem?_cons_zero, iteM, e1, List.length_cons, List.length_nil, Nat.zero_add, Nat.reduceAdd, decide_true, ite_true, mkl, dats, Option.map, sz4]
  have go : ∀ p : Int, atI [svI a, svI (rows.length : Nat), svI 0, svI (if (rows.length : Nat) - (1 : Int) > 0 then (rows.length : Nat) - 1 else 0)] way = some (svI p) → 0 ≤ p → p ≤ rows.length →
      ∃ p l μ', treeTurn [some (.ref 1), some (svI most), some (svI count), some (svI (rows.length : Nat)), some (svI way), some (svI long), some (.dat (treeD rows)), y7] μ =
      some (.ok (.nx [some (.ref 1), some (svI most), some (svI count), some (svI (rows.length : Nat)), some (svI way), some (svI long), some (.dat (treeD (rows ++ [(p, l)]))), some (svI p)]) μ') ∧ TreeOk (rows ++ [(p, l)]) ∧ Deck (n + 2) rest μ' := fun p ep p0 p1 => by
    refine ⟨p, 1 + b, μ2, ?_, ok.snoc p0 p1 (by omega) (by omega), D3⟩
    have s1 : (gSet 7 (bin pIx (lstV false (argC (callF Fdraw 2 (argC (slot 0) (argC (bin (pAdd false) (slot 3) (con (.int 1))) argN))) (argC (slot 3) (argC (con (.int 0)) (argC (callV bMax2 (argC (con (.int 0)) (argC (bin pSub (slot 3) (con (.int 1))) argN))) argN))))) (slot 4)))
        [some (.ref 1), some (svI most), some (svI count), some (svI (rows.length : Nat)), some (svI way), some (svI long), some (.dat (treeD rows)), y7] μ =
        some (.ok (.nx [some (.ref 1), some (svI most), some (svI count), some (svI (rows.length : Nat)), some (svI way), some (svI long), some (.dat (treeD rows)), some (svI p)]) μ1) := by
      refine gset_at ?_
      rw [bin_at lst (show slot 4 _ _ = some (.ok (svI way) μ1) from rfl)]
      simp only [pIx, lsOf, M.bind, List.map_cons, List.map_nil, orFail, ep, Option.map]
    show gSeq _ _ _ _ = _
    rw [seq_at s1]
    exact fin p p0 p1
  rcases four hw hw2 with rfl | rfl | rfl | rfl
  · exact go a (atI_0 _ _) a0 (by omega)
  · exact go _ (atI_1 _ _ _) (by omega) (by omega)
  · exact go _ (atI_2 _ _ _ _) (by omega) (by omega)
  · refine go _ (atI_3 _ _ _ _ _) ?_ ?_
    · split <;> omega
    · split <;> omega
theorem tree_loop {rest : Mu} {most count way long : Int} (hw : 0 ≤ way) (hw2 : way < 4) (hl : 1 ≤ long) (hl2 : long ≤ 1000000) : ∀ (m : Nat) (rows : List (Int × Int)) (n : Int) (μ : Mu) (y3 y7 : Option Sv), Deck n rest μ → 0 ≤ n → n + 2 * m < 10 ^ 10 → TreeOk rows → rows.length + m ≤ 100 →
    ∃ rows' μ' z3 z7, loopG (gNm 3) treeTurn ((List.range' rows.length m).map fun k => .int (0 + (k : Nat))) [some (.ref 1), some (svI most), some (svI count), y3, some (svI way), some (svI long), some (.dat (treeD rows)), y7] μ =
      some (.ok (.nx [some (.ref 1), some (svI most), some (svI count), z3, some (svI way), some (svI long), some (.dat (treeD rows')), z7]) μ') ∧ TreeOk rows' ∧ rows'.length = rows.length + m ∧ Deck (n + 2 * m) rest μ'
  | 0, rows, n, μ, y3, y7, D, _, _, ok, _ => ⟨rows, μ, y3, y7, rfl, ok, rfl, by simpa using D⟩
  | m + 1, rows, n, μ, y3, y7, D, h0, h1, ok, hr => by
    obtain ⟨p, l, μ1, e1, ok1, D1⟩ := tree_turn (most := most) (count := count) (y7 := y7) D h0 (by omega) hw hw2 hl hl2 ok (by omega)
    have hlen : (rows ++ [(p, l)]).length = rows.length + 1 := by simp
    obtain ⟨rows', μ2, z3, z7, e2, ok2, hl2', D2⟩ := tree_loop hw hw2 hl hl2 m (rows ++ [(p, l)]) (n + 2) μ1 (some (svI (rows.length : Nat))) (some (svI p)) D1 (by omega) (by omega) ok1 (by omega)
    refine ⟨rows', μ2, z3, z7, ?_, ok2, by omega, ?_⟩
    · rw [List.range'_succ, List.map_cons]
      have z : (0 : Int) + ((rows.length : Nat) : Int) = (rows.length : Nat) := by omega
      simp only [loopG, gNm, M.bind, ret_at, List.set_cons_succ, List.set_cons_zero, z]
      rw [show ([some (.ref 1), some (svI most), some (svI count), some (Sv.dat (PyData.int (rows.length : Nat))), some (svI way), some (svI long), some (.dat (treeD rows)), y7] : Rho) = [some (.ref 1), some (svI most), some (svI count), some (svI (rows.length : Nat)), some (svI way), some (svI long), some (.dat (treeD rows)), y7] from rfl, e1]
      rw [hlen] at e2
      exact e2
    · have : n + 2 + 2 * (m : Int) = n + 2 * ((m + 1 : Nat) : Int) := by omega
      rw [← this]
      exact D2
theorem tree_ok {n : Int} {rest μ : Mu} {most : Int} (D : Deck n rest μ) (h0 : 0 ≤ n) (h1 : n < 10 ^ 9) (hm : 1 ≤ most) (hm2 : most ≤ 12) :
    ∃ rows μ' n', Ftree [.ref 1, svI most] μ = some (.ok (.dat (treeD rows)) μ') ∧ TreeOk rows ∧ (rows.length : Int) + 1 ≤ most ∧ Deck n' rest μ' ∧ n ≤ n' ∧ n' ≤ n + 40 := by
  obtain ⟨a, μ1, e1, a0, a1, D1⟩ := draw_ok D h0 (by omega) (L := most) (by omega) (by omega)
  obtain ⟨b, μ2, e2, b0, b1, D2⟩ := draw_ok D1 (by omega) (by omega) (L := 2) (by omega) (by omega)
  obtain ⟨way, μ3, e3, c0, c1, D3⟩ := draw_ok D2 (by omega) (by omega) (L := 4) (by omega) (by omega)
  obtain ⟨d, μ4, e4, d0, d1, D4⟩ := draw_ok D3 (by omega) (by omega) (L := 4) (by omega) (by omega)
  obtain ⟨count, hc1, hc2, hc⟩ : ∃ count : Int, 1 ≤ count ∧ count ≤ most ∧ atI [svI (1 + a), svI most] b = some (svI count) := by
    rcases two b0 b1 with rfl | rfl
    · exact ⟨_, by omega, by omega, atI_0 _ _⟩
    · exact ⟨_, hm, Int.le_refl _, atI_1 _ _ _⟩
  obtain ⟨long, hl1, hl2, hl⟩ : ∃ long : Int, 1 ≤ long ∧ long ≤ 1000000 ∧ atI [svI 1, svI 3, svI 9, svI 1000000] d = some (svI long) := by
    rcases four d0 d1 with rfl | rfl | rfl | rfl
    · exact ⟨_, by omega, by omega, atI_0 _ _⟩
    · exact ⟨_, by omega, by omega, atI_1 _ _ _⟩
    · exact ⟨_, by omega, by omega, atI_2 _ _ _ _⟩
    · exact ⟨_, by omega, by omega, atI_3 _ _ _ _ _⟩
  obtain ⟨rows, μ5, z3, z7, e5, ok, hlen, D5⟩ := tree_loop (rest := rest) (most := most) (count := count) (way := way) (long := long) c0 c1 hl1 hl2 (count - 1).toNat [] (n + 1 + 1 + 1 + 1) μ4 none none D4 (by omega) (by omega) .nil (by simp; omega)
  refine ⟨rows, μ5, _, strip_rt ?_, ok, ?_, D5, by omega, by omega⟩
  · show Gtree [some (.ref 1), some (svI most), none, none, none, none, none, none] μ = _
    unfold Gtree
    have sz2 : szOk 2 = true := rfl
    have sz4 : szOk 4 = true := rfl
    have sz0 : szOk 0 = true := rfl
    have s1 : (gSet 2 (bin pIx (lstV false (argC (bin (pAdd false) (con (.int 1)) (callF Fdraw 2 (argC (slot 0) (argC (slot 1) argN)))) (argC (slot 1) argN))) (callF Fdraw 2 (argC (slot 0) (argC (con (.int 2)) argN))))) [some (.ref 1), some (svI most), none, none, none, none, none, none] μ =
        some (.ok (.nx [some (.ref 1), some (svI most), some (svI count), none, none, none, none, none]) μ2) := by
      simp only [gSet, lstV, bin, slot, con, pAdd, argC, argN, callF, M.bind, ret_at, List.getElem?_cons_succ, List.getElem?_cons_zero, iteM, e1, e2, List.length_cons, List.length_nil, Nat.zero_add, Nat.reduceAdd, decide_true, ite_true, mkl, dats, Option.map, sz2, pIx, lsOf, List.map_cons, List.map_nil, hc, orFail, List.set_cons_succ, List.set_cons_zero]
    rw [seq_at s1]
    have s2 : (gPar3 4 5 6 (argC (callF Fdraw 2 (argC (slot 0) (argC (con (.int 4)) argN))) (argC (bin pIx (lstV false (argC (con (.int 1)) (argC (con (.int 3)) (argC (con (.int 9)) (argC (bin pPow (con (.int 10)) (con (.int 6))) argN))))) (callF Fdraw 2 (argC (slot 0) (argC (con (.int 4)) argN)))) (argC (tupV argN) argN))))
        [some (.ref 1), some (svI most), some (svI count), none, none, none, none, none] μ2 = some (.ok (.nx [some (.ref 1), some (svI most), some (svI count), none, some (svI way), some (svI long), some (.dat (treeD [])), none]) μ4) := by
      have p6 : pPow (svI 10) (svI 6) μ3 = some (.ok (svI 1000000) μ3) := rfl
      simp only [gPar3, lstV, tupV, bin, slot, con, argC, argN, callF, M.bind, ret_at, List.getElem?_cons_succ, List.getElem?_cons_zero, iteM, e3, e4, p6, List.length_cons, List.length_nil, Nat.zero_add, Nat.reduceAdd, decide_true, ite_true, mkl, mkt, dats, Option.map, sz0, sz4, pIx, lsOf, List.map_cons, List.map_nil, hl, orFail, List.set_cons_succ, List.set_cons_zero]
      rfl
    rw [seq_at s2]
    have s3 : (gFor (rngV (bin pSub (slot 2) (con (.int 1)))) (gNm 3) treeTurn) [some (.ref 1), some (svI most), some (svI count), none, some (svI way), some (svI long), some (.dat (treeD [])), none] μ4 =
        some (.ok (.nx [some (.ref 1), some (svI most), some (svI count), z3, some (svI way), some (svI long), some (.dat (treeD rows)), z7]) μ5) := by
      have bg : big62 (count - 1) = true := by
        unfold big62
        rw [decide_eq_true (show -(2 ^ 62) ≤ count - 1 by omega), decide_eq_true (show count - 1 < 2 ^ 62 by omega)]
        rfl
      simp only [gFor, rngV, bin, slot, con, pSub, asI, M.bind, ret_at, List.getElem?_cons_succ, List.getElem?_cons_zero, iteM, bg, ite_true, fromTo, List.range_eq_range']
      exact e5
    rw [seq_at s3]
    rfl
  · simp at hlen
    omega
end Pf

namespace Pf
open PySem PySem.Spec PyProof.Rows L2
/-! ### data whose repr is short -/
mutual
def wt : PyData → Nat
  | .none => 4
  | .bool _ => 5
  | .int _ => 44
  | .str x => (reprText x).length
  | .list ds => wts ds + 2
  | .tuple ds => wts ds + 3
  | .dict ds => wtk ds + 2
def wts : List PyData → Nat
  | [] => 0
  | d :: ds => wt d + 2 + wts ds
def wtk : List (PyData × PyData) → Nat
  | [] => 0
  | (c, d) :: ds => wt c + wt d + 4 + wtk ds
end
mutual
def lfs : PyData → Bool
  | .int i => decide (i.natAbs < 10 ^ 42)
  | .list ds => lfss ds
  | .tuple ds => lfss ds
  | .dict ds => lfsk ds
  | _ => true
def lfss : List PyData → Bool
  | [] => true
  | d :: ds => lfs d && lfss ds
def lfsk : List (PyData × PyData) → Bool
  | [] => true
  | (c, d) :: ds => lfs c && lfs d && lfsk ds
end
theorem list_text (ts : List Str) : (listText ts).length ≤ piled ts + 2 := by
  unfold listText
  rw [strLen_append]
  have e1 : ((("]" : String) : Str)).length = 1 := rfl
  rw [e1]
  cases ts with
  | nil =>
    show (("[" : String) : Str).length + 1 ≤ _
    have : ((("[" : String) : Str)).length = 1 := rfl
    omega
  | cons t r =>
    have h := textFrom_length_pos r 1 (("[" : Str) ++ (if (0 : Nat) > 0 then ", " else "" : String) ++ t) (Nat.succ_pos 0)
    have e : ((("[" : Str) ++ (if (0 : Nat) > 0 then ", " else "" : String) ++ t)).length = 1 + t.length := by
      rw [strLen_append, strLen_append]
      rfl
    have hy : (textFrom 0 "[" (t :: r)).length = (textFrom 1 (("[" : Str) ++ (if (0 : Nat) > 0 then ", " else "" : String) ++ t) r).length := rfl
    rw [hy, h, e, piled_cons]
    omega
theorem dict_text (ts : List Str) : (dictText ts).length ≤ piled ts + 2 := by
  unfold dictText
  rw [strLen_append, strLen_append]
  have e1 : ((("}" : String) : Str)).length = 1 := rfl
  have e2 : ((("{" : String) : Str)).length = 1 := rfl
  rw [e1, e2]
  by_cases h : ts = []
  · subst h
    have : (Str.join ", " []).length = 0 := by decide +kernel
    rw [this]
    omega
  · have := join_length_add ts h
    omega
theorem colon_len (a b : Str) : (a ++ ": " ++ b).length = a.length + 2 + b.length := by
  rw [strLen_append, strLen_append]
  rfl
mutual
theorem shown_le : ∀ d : PyData, lfs d = true → d.shown.length ≤ wt d
  | .none, _ => by
    simp only [PyData.shown, wt]
    decide +kernel
  | .bool b, _ => by
    simp only [PyData.shown, wt]
    cases b <;> decide +kernel
  | .int i, h => by
    have h' : i.natAbs < 10 ^ 42 := of_decide_eq_true (by simpa only [lfs] using h)
    simp only [PyData.shown, wt]
    have := int_text_length_le10 (a := i) (k := 42) (by decide) h'
    have e : (Str.ofString (toString i)).length = (toString i).length := by
      exact PySem.ofString_length _
    show (Str.ofString (toString i)).length ≤ 44
    omega
  | .str x, _ => by
    simp only [PyData.shown, wt]
    exact Nat.le_refl _
  | .list ds, h => by
    have ih := shown_les ds (by simpa only [lfs] using h)
    simp only [PyData.shown, wt]
    have := list_text (PyData.shownAll ds)
    omega
  | .tuple ds, h => by
    have ih := shown_les ds (by simpa only [lfs] using h)
    simp only [PyData.shown, wt]
    have := fmt_text (PyData.shownAll ds)
    omega
  | .dict ds, h => by
    have ih := shown_lek ds (by simpa only [lfs] using h)
    simp only [PyData.shown, wt]
    have := dict_text (PyData.shownKv ds)
    omega
theorem shown_les : ∀ ds : List PyData, lfss ds = true → piled (PyData.shownAll ds) ≤ wts ds
  | [], _ => by
    simp only [PyData.shownAll, wts]
    exact Nat.le_refl _
  | d :: ds, h => by
    have h' : lfs d = true ∧ lfss ds = true := by simpa only [lfss, Bool.and_eq_true] using h
    have h1 := shown_le d h'.1
    have h2 := shown_les ds h'.2
    simp only [PyData.shownAll, wts, piled_cons]
    omega
theorem shown_lek : ∀ ds : List (PyData × PyData), lfsk ds = true → piled (PyData.shownKv ds) ≤ wtk ds
  | [], _ => by
    simp only [PyData.shownKv, wtk]
    exact Nat.le_refl _
  | (c, d) :: ds, h => by
    have h' : (lfs c = true ∧ lfs d = true) ∧ lfsk ds = true := by simpa only [lfsk, Bool.and_eq_true] using h
    have h0 := shown_le c h'.1.1
    have h1 := shown_le d h'.1.2
    have h2 := shown_lek ds h'.2
    simp only [PyData.shownKv, wtk, piled_cons, colon_len]
    omega
end
mutual
theorem showable_of : ∀ d : PyData, lfs d = true → d.showable = true
  | .none, _ => by simp only [PyData.showable]
  | .bool b, _ => by simp only [PyData.showable]
  | .str b, _ => by simp only [PyData.showable]
  | .int i, h => by
    have h' : i.natAbs < 10 ^ 42 := of_decide_eq_true (by simpa only [lfs] using h)
    simp only [PyData.showable]
    by_cases hz : i.natAbs = 0
    · rw [hz]
      decide +kernel
    · have : i.natAbs.log2 < 140 := (Nat.log2_lt hz).mpr (Nat.lt_of_lt_of_le h' (by decide +kernel))
      exact decide_eq_true (by omega)
  | .list ds, h => by
    simp only [PyData.showable]
    exact showables_of ds (by simpa only [lfs] using h)
  | .tuple ds, h => by
    simp only [PyData.showable]
    exact showables_of ds (by simpa only [lfs] using h)
  | .dict ds, h => by
    simp only [PyData.showable]
    exact showablek_of ds (by simpa only [lfs] using h)
theorem showables_of : ∀ ds : List PyData, lfss ds = true → PyData.showableAll ds = true
  | [], _ => by simp only [PyData.showableAll]
  | d :: ds, h => by
    have h' : lfs d = true ∧ lfss ds = true := by simpa only [lfss, Bool.and_eq_true] using h
    simp only [PyData.showableAll, showable_of d h'.1, showables_of ds h'.2, Bool.and_self]
theorem showablek_of : ∀ ds : List (PyData × PyData), lfsk ds = true → PyData.showableKv ds = true
  | [], _ => by simp only [PyData.showableKv]
  | (c, d) :: ds, h => by
    have h' : (lfs c = true ∧ lfs d = true) ∧ lfsk ds = true := by simpa only [lfsk, Bool.and_eq_true] using h
    simp only [PyData.showableKv, showable_of c h'.1.1, showable_of d h'.1.2, showablek_of ds h'.2, Bool.and_self]
end
/-- all that repr wants -/
structure Nice (d : PyData) (n : Nat) : Prop where
  lf : lfs d = true
  nd : (!d.hasDict || bare d) = true
  dp : d.depth ≤ 10
  sz : wt d ≤ n
theorem Nice.ok {d : PyData} {n : Nat} (h : Nice d n) (hn : n ≤ 1000000) : okShow d = true := by
  have h1 := shown_le d h.lf
  have h2 := h.sz
  have h3 := h.dp
  unfold okShow
  rw [showable_of d h.lf, h.nd, decide_eq_true (show d.depth ≤ 60 by omega), show szOk d.shown.length = true from decide_eq_true (by omega)]
  rfl
theorem Nice.mono {d : PyData} {n m : Nat} (h : Nice d n) (hn : n ≤ m) : Nice d m := ⟨h.lf, h.nd, h.dp, Nat.le_trans h.sz hn⟩
/-- repr(a) == repr(b), data that is one -/
theorem same_ok {d : PyData} {a b : Sv} {μ : Mu} (h : okShow d = true) (ha : rd a μ = some (.ok d μ)) (hb : rd b μ = some (.ok d μ)) : Fsame [a, b] μ = some (.ok (.dat (.bool true)) μ) := by
  refine strip_rt (ret_gives ?_)
  have r1 : callV bRepr (argC (slot 0) argN) [some a, some b] μ = some (.ok (.dat (.str d.shown)) μ) := by
    simp only [callV, bRepr, argC, argN, slot, M.bind, ret_at, List.getElem?_cons_zero, ha, h, if_true]
  have r2 : callV bRepr (argC (slot 1) argN) [some a, some b] μ = some (.ok (.dat (.str d.shown)) μ) := by
    simp only [callV, bRepr, argC, argN, slot, M.bind, ret_at, List.getElem?_cons_zero, List.getElem?_cons_succ, hb, h, if_true]
  show bin pEq _ _ [some a, some b] μ = _
  rw [bin_at r1 r2]
  simp only [pEqn, ret_at, decide_true, Bool.false_xor]
/-- repr(x) of a slot -/
theorem repr_at {d : PyData} {s : Sv} {F : Rho → M Sv} {ρ : Rho} {μ μ1 : Mu} (e : F ρ μ = some (.ok s μ1)) (hr : rd s μ1 = some (.ok d μ1)) (h : okShow d = true) : callV bRepr (argC F argN) ρ μ = some (.ok (.dat (.str d.shown)) μ1) := by
  simp only [callV, bRepr, argC, argN, M.bind, ret_at, e, hr, h, if_true]
theorem ne_text {x : Str} {μ : Mu} : pNe (.dat (.str x)) (.dat (.str x)) μ = some (.ok (.dat (.bool false)) μ) := by
  simp only [pEqn, ret_at, decide_true, Bool.true_xor, Bool.not_true]
/-! ### trees are nice -/
theorem wts_le {n : Nat} : ∀ {ds : List PyData}, (∀ d ∈ ds, wt d ≤ n) → wts ds ≤ (n + 2) * ds.length
  | [], _ => Nat.zero_le _
  | d :: ds, h => by
    have h1 := h d List.mem_cons_self
    have h2 := wts_le (ds := ds) fun d hd => h d (List.mem_cons_of_mem _ hd)
    simp only [wts, List.length_cons, Nat.mul_succ]
    omega
theorem lfss_of : ∀ {ds : List PyData}, (∀ d ∈ ds, lfs d = true) → lfss ds = true
  | [], _ => by simp only [lfss]
  | d :: ds, h => by
    simp only [lfss, h d List.mem_cons_self, lfss_of (ds := ds) fun d hd => h d (List.mem_cons_of_mem _ hd), Bool.and_self]
theorem nodict_of : ∀ {ds : List PyData}, (∀ d ∈ ds, d.hasDict = false) → PyData.hasDictAll ds = false
  | [], _ => by simp only [PyData.hasDictAll]
  | d :: ds, h => by
    simp only [PyData.hasDictAll, h d List.mem_cons_self, nodict_of (ds := ds) fun d hd => h d (List.mem_cons_of_mem _ hd), Bool.or_self]
theorem depth_of {n : Nat} : ∀ {ds : List PyData}, (∀ d ∈ ds, d.depth ≤ n) → PyData.depthAll ds ≤ n
  | [], _ => by simp only [PyData.depthAll]; exact Nat.zero_le _
  | d :: ds, h => by
    have h1 := h d List.mem_cons_self
    have h2 := depth_of (ds := ds) fun d hd => h d (List.mem_cons_of_mem _ hd)
    simp only [PyData.depthAll]
    omega
/-- no dict within: data by parts -/
structure Fine (d : PyData) (n k : Nat) : Prop where
  lf : lfs d = true
  nd : d.hasDict = false
  dp : d.depth ≤ k
  sz : wt d ≤ n
theorem Fine.nice {d : PyData} {n k : Nat} (h : Fine d n k) (hk : k ≤ 10) : Nice d n := ⟨h.lf, by rw [h.nd]; rfl, Nat.le_trans h.dp hk, h.sz⟩
theorem Fine.up {d : PyData} {n k n' k' : Nat} (h : Fine d n k) (hn : n ≤ n') (hk : k ≤ k') : Fine d n' k' := ⟨h.lf, h.nd, Nat.le_trans h.dp hk, Nat.le_trans h.sz hn⟩
theorem Fine.int {i : Int} (h : i.natAbs < 10 ^ 42) : Fine (.int i) 44 0 := ⟨by simp only [lfs]; exact decide_eq_true h, by simp only [PyData.hasDict], by simp only [PyData.depth]; exact Nat.le_refl _, by simp only [wt]; exact Nat.le_refl _⟩
theorem Fine.list {ds : List PyData} {n k : Nat} (h : ∀ d ∈ ds, Fine d n k) : Fine (.list ds) ((n + 2) * ds.length + 2) (k + 1) :=
  ⟨by simp only [lfs]; exact lfss_of fun d hd => (h d hd).lf, by simp only [PyData.hasDict]; exact nodict_of fun d hd => (h d hd).nd, by simp only [PyData.depth]; exact Nat.succ_le_succ (depth_of fun d hd => (h d hd).dp),
    by simp only [wt]; exact Nat.add_le_add_right (wts_le fun d hd => (h d hd).sz) 2⟩
theorem Fine.tuple {ds : List PyData} {n k : Nat} (h : ∀ d ∈ ds, Fine d n k) : Fine (.tuple ds) ((n + 2) * ds.length + 3) (k + 1) :=
  ⟨by simp only [lfs]; exact lfss_of fun d hd => (h d hd).lf, by simp only [PyData.hasDict]; exact nodict_of fun d hd => (h d hd).nd, by simp only [PyData.depth]; exact Nat.succ_le_succ (depth_of fun d hd => (h d hd).dp),
    by simp only [wt]; exact Nat.add_le_add_right (wts_le fun d hd => (h d hd).sz) 3⟩
theorem TreeOk.at_ {rows : List (Int × Int)} (h : TreeOk rows) {r : Int × Int} (hr : r ∈ rows) : 0 ≤ r.1 ∧ r.1 ≤ rows.length ∧ 1 ≤ r.2 ∧ r.2 ≤ 1000000 := by
  obtain ⟨k, e⟩ := List.getElem?_of_mem hr
  have := h k r e
  have hk := (List.getElem?_eq_some_iff.mp e).1
  omega
theorem tree_fine {rows : List (Int × Int)} (h : TreeOk rows) (hl : rows.length ≤ 100) : Fine (treeD rows) 10000 2 := by
  have hr : ∀ d ∈ rows.map rowD, Fine d 95 1 := fun d hd => by
    obtain ⟨r, hr, rfl⟩ := List.mem_map.mp hd
    have b := h.at_ hr
    refine Fine.tuple (n := 44) (k := 0) fun d hd => ?_
    rcases List.mem_cons.mp hd with rfl | hd
    · exact .int (Nat.lt_trans (show r.1.natAbs < 1000 by omega) (by decide +kernel))
    · rcases List.mem_cons.mp hd with rfl | hd
      · exact .int (Nat.lt_trans (show r.2.natAbs < 10000000 by omega) (by decide +kernel))
      · cases hd
  refine (Fine.tuple hr).up ?_ (Nat.le_refl _)
  rw [List.length_map]
  omega
end Pf

namespace Pf
open PySem PySem.Spec PyProof.Rows L2
/-! ### pure promises -/
open Classical in
noncomputable def pureF {α : Type} (enc : α → List Sv) (ok : α → Prop) (out : α → PyData) (ss : List Sv) : M Sv := fun μ => if h : ∃ x, ss = enc x ∧ ok x then some (.ok (.dat (out h.choose)) μ) else none
section
variable {α : Type} {enc : α → List Sv} {ok : α → Prop} {out : α → PyData}
theorem pureF_eq (inj : ∀ x y, enc x = enc y → x = y) {x : α} (h : ok x) (μ : Mu) : pureF enc ok out (enc x) μ = some (.ok (.dat (out x)) μ) := by
  unfold pureF
  have hx : ∃ y, enc x = enc y ∧ ok y := ⟨x, rfl, h⟩
  rw [dif_pos hx, ← inj _ _ hx.choose_spec.1]
theorem pureF_inv {ss : List Sv} {μ : Mu} {r : Res Sv} (h : pureF enc ok out ss μ = some r) : ∃ x, ss = enc x ∧ ok x ∧ r = .ok (.dat (out x)) μ := by
  unfold pureF at h
  split at h
  · rename_i hx
    cases h
    exact ⟨_, hx.choose_spec.1, hx.choose_spec.2, rfl⟩
  · cases h
theorem same_pure {N n : Nat} {G : Rho → M Out} (h : ∀ x μ, ok x → ∃ g, G (ini N (enc x)) μ = some (.ok (.rt (.dat (out x))) (μ ++ g))) (ss : List Sv) (μ : Mu) (r : Res Sv) (_ : ss.length = n) (wf : Wf μ) (e : pureF enc ok out ss μ = some r) :
    ∃ r', G (ini N ss) μ = some r' ∧ Agree μ.length r r' := by
  obtain ⟨x, rfl, hx, rfl⟩ := pureF_inv e
  obtain ⟨g, eg⟩ := h x μ hx
  exact ⟨_, eg, rfl, ⟨g, rfl⟩, wf, Nat.le_refl _, trivial⟩
end
theorem treeD_inj {a b : List (Int × Int)} (h : treeD a = treeD b) : a = b := by
  have h1 : a.map rowD = b.map rowD := PyData.tuple.inj h
  have inj : ∀ {x y : Int × Int}, rowD x = rowD y → x = y := fun {x y} e => by
    have := PyData.tuple.inj e
    simp at this
    exact Prod.ext this.1 this.2
  induction a generalizing b with
  | nil =>
    cases b with
    | nil => rfl
    | cons y r => cases h1
  | cons x a ih =>
    cases b with
    | nil => cases h1
    | cons y r =>
      rw [List.map_cons, List.map_cons] at h1
      have h2 := (List.cons.inj h1).1
      have h3 := (List.cons.inj h1).2
      rw [inj h2, ih (b := r) (by unfold treeD; rw [h3]) h3]
/-! ### loops by an invariant -/
theorem loop_inv {T : Sv → Rho → M Rho} {B : Rho → M Out} (I : Nat → Rho → Mu → Prop) : ∀ (ds : List PyData) (k : Nat) (ρ : Rho) (μ : Mu), (∀ i d ρ μ, ds[i]? = some d → I (k + i) ρ μ → ∃ ρ1 μ1 ρ2 μ2, T (.dat d) ρ μ = some (.ok ρ1 μ1) ∧ (B ρ1 μ1 = some (.ok (.nx ρ2) μ2) ∨ B ρ1 μ1 = some (.ok (.ct ρ2) μ2)) ∧ I (k + i + 1) ρ2 μ2) → I k ρ μ →
    ∃ ρ' μ', loopG T B ds ρ μ = some (.ok (.nx ρ') μ') ∧ I (k + ds.length) ρ' μ'
  | [], k, ρ, μ, _, h => ⟨ρ, μ, rfl, h⟩
  | d :: ds, k, ρ, μ, st, h => by
    obtain ⟨ρ1, μ1, ρ2, μ2, e1, e2, h2⟩ := st 0 d ρ μ rfl h
    obtain ⟨ρ', μ', e3, h3⟩ := loop_inv I ds (k + 1) ρ2 μ2 (fun i d ρ μ hd hi => by
      have a1 : k + 1 + i = k + (i + 1) := by omega
      rw [a1] at hi ⊢
      exact st (i + 1) d ρ μ (by simpa using hd) hi) h2
    refine ⟨ρ', μ', ?_, ?_⟩
    · rcases e2 with e2 | e2
      · simp only [loopG, M.bind, e1, e2]
        exact e3
      · simp only [loopG, M.bind, e1, e2]
        exact e3
    · have a1 : k + (d :: ds).length = k + 1 + ds.length := by
        rw [List.length_cons]
        omega
      rw [a1]
      exact h3
theorem for_inv {Fi : Rho → M (List PyData)} {T : Sv → Rho → M Rho} {B : Rho → M Out} (I : Nat → Rho → Mu → Prop) {ds : List PyData} {ρ : Rho} {μ μ0 : Mu} (e : Fi ρ μ = some (.ok ds μ0))
    (st : ∀ i d ρ μ, ds[i]? = some d → I i ρ μ → ∃ ρ1 μ1 ρ2 μ2, T (.dat d) ρ μ = some (.ok ρ1 μ1) ∧ (B ρ1 μ1 = some (.ok (.nx ρ2) μ2) ∨ B ρ1 μ1 = some (.ok (.ct ρ2) μ2)) ∧ I (i + 1) ρ2 μ2) (h0 : I 0 ρ μ0) :
    ∃ ρ' μ', gFor Fi T B ρ μ = some (.ok (.nx ρ') μ') ∧ I ds.length ρ' μ' := by
  obtain ⟨ρ', μ', e1, h1⟩ := loop_inv (T := T) (B := B) I ds 0 ρ μ0 (fun i d ρ μ hd hi => by
    rw [Nat.zero_add] at hi ⊢
    exact st i d ρ μ hd hi) h0
  refine ⟨ρ', μ', ?_, by simpa using h1⟩
  unfold gFor
  rw [bind_ok e]
  exact e1
theorem fromTo_at {lo : Int} {n i : Nat} {d : PyData} (h : (fromTo lo n)[i]? = some d) : i < n ∧ d = .int (lo + (i : Nat)) := by
  unfold fromTo at h
  have hi : i < n := by
    have := (List.getElem?_eq_some_iff.mp h).1
    simpa using this
  rw [List.getElem?_map, List.getElem?_range hi] at h
  exact ⟨hi, (Option.some.inj h).symm⟩
theorem fromTo_len (lo : Int) (n : Nat) : (fromTo lo n).length = n := by simp [fromTo]
theorem fromTo_mem {lo : Int} {n : Nat} {d : PyData} (h : d ∈ fromTo lo n) : ∃ k : Nat, k < n ∧ d = .int (lo + (k : Nat)) := by
  obtain ⟨k, hk, rfl⟩ := List.mem_map.mp h
  exact ⟨k, List.mem_range.mp hk, rfl⟩
theorem big62_small {i : Int} (h0 : -1000000000 ≤ i) (h1 : i ≤ 1000000000) : big62 i = true := by
  unfold big62
  rw [decide_eq_true (show -(2 ^ 62) ≤ i by omega), decide_eq_true (show i < 2 ^ 62 by omega)]
  rfl
theorem rng_at {F : Rho → M Sv} {ρ : Rho} {μ μ1 : Mu} {i : Int} (e : F ρ μ = some (.ok (svI i) μ1)) (h0 : -1000000000 ≤ i) (h1 : i ≤ 1000000000) : rngV F ρ μ = some (.ok (fromTo 0 i.toNat) μ1) := by
  unfold rngV
  rw [bind_ok e]
  simp only [asI, M.bind, ret_at, iteM, big62_small h0 h1, if_true]
/-! ### two tagged lists behind the rest -/
section
variable {μ : Mu} {x y z : MObj}
theorem g0 : (μ ++ [x, y])[μ.length]? = some x := by
  rw [List.getElem?_append_right (Nat.le_refl _), Nat.sub_self]
  rfl
theorem g1 : (μ ++ [x, y])[μ.length + 1]? = some y := by
  rw [List.getElem?_append_right (Nat.le_succ _), show μ.length.succ - μ.length = 1 by omega]
  rfl
theorem s0 : (μ ++ [x, y]).set μ.length z = μ ++ [z, y] := by
  rw [List.set_append_right _ _ (Nat.le_refl _), Nat.sub_self]
  rfl
theorem s1 : (μ ++ [x, y]).set (μ.length + 1) z = μ ++ [x, z] := by
  rw [List.set_append_right _ _ (Nat.le_succ _), show μ.length.succ - μ.length = 1 by omega]
  rfl
theorem a0 : (μ ++ [x])[μ.length]? = some x := by
  rw [List.getElem?_append_right (Nat.le_refl _), Nat.sub_self]
  rfl
theorem al : (μ ++ [x]).length = μ.length + 1 := by simp
theorem aa : (μ ++ [x]) ++ [y] = μ ++ [x, y] := by simp
theorem b0 : (μ ++ [x]).set μ.length z = μ ++ [z] := by
  rw [List.set_append_right _ _ (Nat.le_refl _), Nat.sub_self]
  rfl
end
/-! ### marks, ways, distances -/
def mrk (k : Nat) : Sv := svI (k : Int)
def mkD (k : Nat) : PyData := .int (k : Int)
def par (rows : List (Int × Int)) (m : Nat) : Nat := ((rows[m - 1]?).getD (0, 0)).1.toNat
def lnR (rows : List (Int × Int)) (m : Nat) : Int := ((rows[m - 1]?).getD (0, 0)).2
theorem row_of {rows : List (Int × Int)} (ok : TreeOk rows) {m : Nat} (h0 : 0 < m) (h1 : m ≤ rows.length) : ∃ r, rows[m - 1]? = some r ∧ r.1 = (par rows m : Nat) ∧ r.2 = lnR rows m ∧ par rows m < m ∧ 1 ≤ lnR rows m ∧ lnR rows m ≤ 1000000 := by
  have hm : m - 1 < rows.length := by omega
  have e : rows[m - 1]? = some rows[m - 1] := List.getElem?_eq_getElem hm
  have b := ok _ _ e
  refine ⟨_, e, ?_, ?_, ?_, ?_, ?_⟩
  · unfold par
    rw [e]
    show _ = ((rows[m - 1].1.toNat : Nat) : Int)
    omega
  · unfold lnR
    rw [e]
    rfl
  · unfold par
    rw [e]
    show rows[m - 1].1.toNat < m
    omega
  · unfold lnR
    rw [e]
    exact b.2.2.1
  · unfold lnR
    rw [e]
    exact b.2.2.2
/-- tree[m - 1] -/
theorem tree_row {rows : List (Int × Int)} {m : Nat} {r : Int × Int} (h0 : 0 < m) (e : rows[m - 1]? = some r) (μ : Mu) : pIx (.dat (treeD rows)) (svI ((m : Int) - 1)) μ = some (.ok (.dat (rowD r)) μ) := by
  have e2 : (rows.map rowD)[m - 1]? = some (rowD r) := by
    rw [List.getElem?_map, e]
    rfl
  have e3 : atI (rows.map rowD) ((m : Int) - 1) = some (rowD r) := by
    have := atI_nat e2
    rw [show ((m - 1 : Nat) : Int) = (m : Int) - 1 by omega] at this
    exact this
  show M.bind (orFail (atI (rows.map rowD) ((m : Int) - 1))) _ μ = _
  rw [e3]
  rfl
theorem row_0 (r : Int × Int) (μ : Mu) : pIx (.dat (rowD r)) (svI 0) μ = some (.ok (svI r.1) μ) := rfl
theorem row_1 (r : Int × Int) (μ : Mu) : pIx (.dat (rowD r)) (svI 1) μ = some (.ok (svI r.2) μ) := rfl
def wayF (rows : List (Int × Int)) : Nat → Nat → Nat → List Nat
  | 0, a, _ => [a]
  | n + 1, a, b => if a = b then [a] else if b < a then a :: wayF rows n (par rows a) b else wayF rows n a (par rows b) ++ [b]
def distF (rows : List (Int × Int)) : Nat → Nat → Nat → Int
  | 0, _, _ => 0
  | n + 1, a, b => if a = b then 0 else if b < a then lnR rows a + distF rows n (par rows a) b else distF rows n a (par rows b) + lnR rows b
def way (rows : List (Int × Int)) (a b : Nat) : List Nat := wayF rows (a + b + 1) a b
def dist (rows : List (Int × Int)) (a b : Nat) : Int := distF rows (a + b + 1) a b
section
variable {rows : List (Int × Int)} (ok : TreeOk rows)
include ok
theorem wayF_way : ∀ (n a b : Nat), a + b < n → a ≤ rows.length → b ≤ rows.length → wayF rows n a b = way rows a b := by
  have key : ∀ (n m a b : Nat), a + b < n → a + b < m → a ≤ rows.length → b ≤ rows.length → wayF rows n a b = wayF rows m a b := by
    intro n
    induction n with
    | zero => intro m a b h; omega
    | succ n ih =>
      intro m a b h h2 ha hb
      cases m with
      | zero => omega
      | succ m =>
        unfold wayF
        by_cases e : a = b
        · rw [if_pos e, if_pos e]
        · rw [if_neg e, if_neg e]
          by_cases l : b < a
          · rw [if_pos l, if_pos l]
            obtain ⟨r, _, _, _, hp, _⟩ := row_of ok (m := a) (by omega) ha
            rw [ih m (par rows a) b (by omega) (by omega) (by omega) hb]
          · rw [if_neg l, if_neg l]
            obtain ⟨r, _, _, _, hp, _⟩ := row_of ok (m := b) (by omega) hb
            rw [ih m a (par rows b) (by omega) (by omega) ha (by omega)]
  exact fun n a b h ha hb => key n _ a b h (Nat.lt_succ_self _) ha hb
theorem distF_dist : ∀ (n a b : Nat), a + b < n → a ≤ rows.length → b ≤ rows.length → distF rows n a b = dist rows a b := by
  have key : ∀ (n m a b : Nat), a + b < n → a + b < m → a ≤ rows.length → b ≤ rows.length → distF rows n a b = distF rows m a b := by
    intro n
    induction n with
    | zero => intro m a b h; omega
    | succ n ih =>
      intro m a b h h2 ha hb
      cases m with
      | zero => omega
      | succ m =>
        unfold distF
        by_cases e : a = b
        · rw [if_pos e, if_pos e]
        · rw [if_neg e, if_neg e]
          by_cases l : b < a
          · rw [if_pos l, if_pos l]
            obtain ⟨r, _, _, _, hp, _⟩ := row_of ok (m := a) (by omega) ha
            rw [ih m (par rows a) b (by omega) (by omega) (by omega) hb]
          · rw [if_neg l, if_neg l]
            obtain ⟨r, _, _, _, hp, _⟩ := row_of ok (m := b) (by omega) hb
            rw [ih m a (par rows b) (by omega) (by omega) ha (by omega)]
  exact fun n a b h ha hb => key n _ a b h (Nat.lt_succ_self _) ha hb
theorem way_eq {a : Nat} : way rows a a = [a] := by
  unfold way wayF
  rw [if_pos rfl]
theorem way_gt {a b : Nat} (h : b < a) (ha : a ≤ rows.length) : way rows a b = a :: way rows (par rows a) b := by
  obtain ⟨r, _, _, _, hp, _⟩ := row_of ok (m := a) (by omega) ha
  rw [← wayF_way ok (a + b) (par rows a) b (by omega) (by omega) (by omega)]
  unfold way
  rw [wayF, if_neg (by omega), if_pos h]
theorem way_lt {a b : Nat} (h : a < b) (hb : b ≤ rows.length) : way rows a b = way rows a (par rows b) ++ [b] := by
  obtain ⟨r, _, _, _, hp, _⟩ := row_of ok (m := b) (by omega) hb
  rw [← wayF_way ok (a + b) a (par rows b) (by omega) (by omega) (by omega)]
  unfold way
  rw [wayF, if_neg (by omega), if_neg (by omega)]
theorem dist_eq {a : Nat} : dist rows a a = 0 := by
  unfold dist distF
  rw [if_pos rfl]
theorem dist_gt {a b : Nat} (h : b < a) (ha : a ≤ rows.length) : dist rows a b = lnR rows a + dist rows (par rows a) b := by
  obtain ⟨r, _, _, _, hp, _⟩ := row_of ok (m := a) (by omega) ha
  rw [← distF_dist ok (a + b) (par rows a) b (by omega) (by omega) (by omega)]
  unfold dist
  rw [distF, if_neg (by omega), if_pos h]
theorem dist_lt {a b : Nat} (h : a < b) (hb : b ≤ rows.length) : dist rows a b = dist rows a (par rows b) + lnR rows b := by
  obtain ⟨r, _, _, _, hp, _⟩ := row_of ok (m := b) (by omega) hb
  rw [← distF_dist ok (a + b) a (par rows b) (by omega) (by omega) (by omega)]
  unfold dist
  rw [distF, if_neg (by omega), if_neg (by omega)]
theorem dist_comm : ∀ (n a b : Nat), a + b < n → a ≤ rows.length → b ≤ rows.length → dist rows a b = dist rows b a := by
  intro n
  induction n with
  | zero => intro a b h; omega
  | succ n ih =>
    intro a b h ha hb
    rcases Nat.lt_trichotomy a b with l | l | l
    · obtain ⟨r, _, _, _, hp, _⟩ := row_of ok (m := b) (by omega) hb
      rw [dist_lt ok l hb, dist_gt ok l hb, ih a (par rows b) (by omega) ha (by omega), Int.add_comm]
    · rw [l]
    · obtain ⟨r, _, _, _, hp, _⟩ := row_of ok (m := a) (by omega) ha
      rw [dist_lt ok l ha, dist_gt ok l ha, ih (par rows a) b (by omega) (by omega) hb, Int.add_comm]
theorem dist_bound : ∀ (n a b : Nat), a + b < n → a ≤ rows.length → b ≤ rows.length → 0 ≤ dist rows a b ∧ dist rows a b ≤ 1000000 * (a + b) := by
  intro n
  induction n with
  | zero => intro a b h; omega
  | succ n ih =>
    intro a b h ha hb
    rcases Nat.lt_trichotomy a b with l | l | l
    · obtain ⟨r, _, _, _, hp, l1, l2⟩ := row_of ok (m := b) (by omega) hb
      have := ih a (par rows b) (by omega) ha (by omega)
      rw [dist_lt ok l hb]
      omega
    · rw [l, dist_eq ok]
      omega
    · obtain ⟨r, _, _, _, hp, l1, l2⟩ := row_of ok (m := a) (by omega) ha
      have := ih (par rows a) b (by omega) (by omega) hb
      rw [dist_gt ok l ha]
      omega
theorem way_mem : ∀ (n a b : Nat), a + b < n → a ≤ rows.length → b ≤ rows.length → ∀ m ∈ way rows a b, m ≤ rows.length := by
  intro n
  induction n with
  | zero => intro a b h; omega
  | succ n ih =>
    intro a b h ha hb m hm
    rcases Nat.lt_trichotomy a b with l | l | l
    · obtain ⟨r, _, _, _, hp, _⟩ := row_of ok (m := b) (by omega) hb
      rw [way_lt ok l hb] at hm
      rcases List.mem_append.mp hm with z | z
      · exact ih a (par rows b) (by omega) ha (by omega) m z
      · rw [List.mem_singleton.mp z]
        exact hb
    · rw [l, way_eq ok] at hm
      rw [List.mem_singleton.mp hm]
      exact hb
    · obtain ⟨r, _, _, _, hp, _⟩ := row_of ok (m := a) (by omega) ha
      rw [way_gt ok l ha] at hm
      rcases List.mem_cons.mp hm with z | z
      · rw [z]
        exact ha
      · exact ih (par rows a) b (by omega) (by omega) hb m z
theorem way_len : ∀ (n a b : Nat), a + b < n → a ≤ rows.length → b ≤ rows.length → (way rows a b).length ≤ a + b + 1 ∧ ((way rows a b).head? = some a) ∧ (way rows a b).getLast? = some b := by
  intro n
  induction n with
  | zero => intro a b h; omega
  | succ n ih =>
    intro a b h ha hb
    rcases Nat.lt_trichotomy a b with l | l | l
    · obtain ⟨r, _, _, _, hp, _⟩ := row_of ok (m := b) (by omega) hb
      obtain ⟨i1, i2, i3⟩ := ih a (par rows b) (by omega) ha (by omega)
      rw [way_lt ok l hb]
      refine ⟨by rw [List.length_append, List.length_singleton]; omega, ?_, by simp⟩
      rw [List.head?_append, i2]
      rfl
    · rw [l, way_eq ok]
      refine ⟨by simp, rfl, rfl⟩
    · obtain ⟨r, _, _, _, hp, _⟩ := row_of ok (m := a) (by omega) ha
      obtain ⟨i1, i2, i3⟩ := ih (par rows a) b (by omega) (by omega) hb
      rw [way_gt ok l ha]
      refine ⟨by rw [List.length_cons]; omega, rfl, ?_⟩
      rw [List.getLast?_cons, i3]
      rfl
end
/-! ### comprehensions over data -/
theorem lcV_at {m : Bool} {vs : List Nat} {Fi : Rho → M (List PyData)} {T : Sv → Rho → M Rho} {Fe : Rho → M Sv} {ρ : Rho} {μ μ0 : Mu} {ds : List PyData} (g : PyData → Sv) (e : Fi ρ μ0 = some (.ok ds μ)) (sz : ds.length ≤ 1000000)
    (h : ∀ d ∈ ds, ∃ ρ1, T (.dat d) (wipeR ρ vs) μ = some (.ok ρ1 μ) ∧ Fe ρ1 μ = some (.ok (g d) μ)) : lcV m vs Fi T yes Fe ρ μ0 = mkl m (ds.map g) μ := by
  unfold lcV
  rw [bind_ok e]
  have z : szOk ds.length = true := decide_eq_true sz
  rw [if_pos z, bind_ok (lcL_map g h)]
theorem mkl_dat (ds : List PyData) (μ : Mu) : mkl false (ds.map Sv.dat) μ = some (.ok (.dat (.list ds)) μ) := by
  simp only [mkl, dats_map, Option.map]
theorem mkl_mapD {α : Type} (xs : List α) (f : α → PyData) (μ : Mu) : mkl false (xs.map fun x => Sv.dat (f x)) μ = some (.ok (.dat (.list (xs.map f))) μ) := by
  have := mkl_dat (xs.map f) μ
  rw [List.map_map] at this
  exact this
theorem atI_map {α β : Type} {xs : List α} {f : α → β} {i : Int} {x : α} (h : atI xs i = some x) : atI (xs.map f) i = some (f x) := by
  unfold atI at h ⊢
  rw [List.length_map]
  cases q : ixN xs.length i with
  | none =>
    rw [q] at h
    cases h
  | some j =>
    rw [q] at h
    show (xs.map f)[j]? = _
    have h' : xs[j]? = some x := h
    rw [List.getElem?_map, h']
    rfl
theorem atI_range {α : Type} {n k : Nat} (f : Nat → α) (h : k < n) : atI ((List.range n).map f) (k : Int) = some (f k) := by
  have : ((List.range n).map f)[k]? = some (f k) := by
    rw [List.getElem?_map, List.getElem?_range h]
    rfl
  exact atI_nat this
theorem cut_from1 {α : Type} (xs : List α) : cutL xs (some 1) none = xs.drop 1 := by
  unfold cutL
  rw [HT.sIx_none, show HT.sIx xs.length 0 (some 1) = min 1 xs.length from HT.sIx_nat xs.length 0 1]
  cases xs with
  | nil => rfl
  | cons x r =>
    rw [show min 1 (x :: r).length = 1 by rw [List.length_cons]; omega]
    show List.take ((x :: r).length - 1) r = r
    rw [List.length_cons, Nat.add_sub_cancel]
    exact List.take_length
/-! ### pairs on a way -/
def pairs : List Nat → List (Nat × Nat)
  | a :: b :: r => (a, b) :: pairs (b :: r)
  | _ => []
def pairD (p : Nat × Nat) : PyData := .tuple [mkD p.1, mkD p.2]
theorem zip_pairs : ∀ w : List Nat, zipD (w.map mkD) ((w.map mkD).drop 1) = (pairs w).map pairD
  | [] => rfl
  | [_] => rfl
  | a :: b :: r => by
    have ih := zip_pairs (b :: r)
    show PyData.tuple [mkD a, mkD b] :: zipD ((b :: r).map mkD) (((b :: r).map mkD).drop 1) = _
    rw [ih]
    rfl
theorem pairs_cons {a h : Nat} {w : List Nat} (e : w.head? = some h) : pairs (a :: w) = (a, h) :: pairs w := by
  cases w with
  | nil => cases e
  | cons x r =>
    cases e
    rfl
theorem pairs_snoc {b l : Nat} : ∀ {w : List Nat}, w.getLast? = some l → pairs (w ++ [b]) = pairs w ++ [(l, b)]
  | [], e => by cases e
  | [x], e => by
    cases e
    rfl
  | x :: y :: r, e => by
    have e' : (y :: r).getLast? = some l := by
      rw [List.getLast?_cons_cons] at e
      exact e
    have ih := pairs_snoc (b := b) e'
    show (x, y) :: pairs ((y :: r) ++ [b]) = (x, y) :: pairs (y :: r) ++ [(l, b)]
    rw [ih]
    rfl
theorem pairs_len : ∀ w : List Nat, (pairs w).length ≤ w.length
  | [] => Nat.le_refl _
  | [_] => Nat.zero_le _
  | a :: b :: r => Nat.succ_le_succ (pairs_len (b :: r))
def psum (rows : List (Int × Int)) (w : List Nat) : Int := ((pairs w).map fun p => lnR rows (max p.1 p.2)).sum
theorem way_pairs {rows : List (Int × Int)} (ok : TreeOk rows) : ∀ (n a b : Nat), a + b < n → a ≤ rows.length → b ≤ rows.length → (∀ p ∈ pairs (way rows a b), 0 < max p.1 p.2 ∧ max p.1 p.2 ≤ rows.length) ∧ psum rows (way rows a b) = dist rows a b := by
  intro n
  induction n with
  | zero => intro a b h; omega
  | succ n ih =>
    intro a b h ha hb
    rcases Nat.lt_trichotomy a b with l | l | l
    · obtain ⟨r, _, _, _, hp, _⟩ := row_of ok (m := b) (by omega) hb
      obtain ⟨i1, i2⟩ := ih a (par rows b) (by omega) ha (by omega)
      have ps := pairs_snoc (b := b) (way_len ok _ a (par rows b) (Nat.lt_succ_self _) ha (by omega)).2.2
      have mx : max (par rows b) b = b := by omega
      rw [way_lt ok l hb]
      refine ⟨fun p hpm => ?_, ?_⟩
      · rw [ps] at hpm
        rcases List.mem_append.mp hpm with z | z
        · exact i1 p z
        · rw [List.mem_singleton.mp z]
          show 0 < max (par rows b) b ∧ max (par rows b) b ≤ _
          omega
      · unfold psum at i2 ⊢
        rw [ps, List.map_append, List.sum_append, i2, dist_lt ok l hb]
        show dist rows a (par rows b) + (lnR rows (max (par rows b) b) + 0) = _
        rw [mx, Int.add_zero]
    · rw [l, way_eq ok, dist_eq ok]
      exact ⟨fun p hp => (nomatch hp), rfl⟩
    · obtain ⟨r, _, _, _, hp, _⟩ := row_of ok (m := a) (by omega) ha
      obtain ⟨i1, i2⟩ := ih (par rows a) b (by omega) (by omega) hb
      have ps := pairs_cons (a := a) (way_len ok _ (par rows a) b (Nat.lt_succ_self _) (by omega) hb).2.1
      have mx : max a (par rows a) = a := by omega
      rw [way_gt ok l ha]
      refine ⟨fun p hpm => ?_, ?_⟩
      · rw [ps] at hpm
        rcases List.mem_cons.mp hpm with z | z
        · rw [z]
          show 0 < max a (par rows a) ∧ max a (par rows a) ≤ _
          omega
        · exact i1 p z
      · unfold psum at i2 ⊢
        rw [ps, List.map_cons, List.sum_cons, i2, dist_gt ok l ha]
        show lnR rows (max a (par rows a)) + _ = _
        rw [mx]
/-- a promise that never holds -/
theorem gk_none {P : Program} {w : World} {K : PySem.W.Frag} {mg : Str → Option Value} {base : Heap} {CX : CXT} {k : Nat} {f : Addr} {fd : FuncData} {ps : List Str} {n : Nat} {Fm : List Sv → M Sv} (hn : ps.length = n) (h : ∀ ss μ, Fm ss μ = none) : Gk P w K mg base CX k f fd ps (spM K n Fm) :=
  ⟨fun vs H Q E z => z.1.trans hn.symm, fun A b s H ar us vs Q E _ _ _ _ _ ⟨_, W, μ, ss, r, _, _, e, _⟩ => by
    rw [h] at e
    cases e⟩
theorem pureF_none {α : Type} {enc : α → List Sv} {ok : α → Prop} {out : α → PyData} (h : ∀ x, ¬ ok x) (ss : List Sv) (μ : Mu) : pureF enc ok out ss μ = none := by
  unfold pureF
  rw [dif_neg fun ⟨x, _, z⟩ => h x z]
theorem cat_at {xs ys : List PyData} (h : xs.length + ys.length ≤ 1000000) (μ : Mu) : pAdd false (.dat (.list xs)) (.dat (.list ys)) μ = some (.ok (.dat (.list (xs ++ ys))) μ) := by
  have z : szOk (xs.length + (ys.map Sv.dat).length) = true := decide_eq_true (by rw [List.length_map]; exact h)
  have e : lsOf (.dat (.list ys)) μ = some (.ok (ys.map Sv.dat) μ) := rfl
  have u : pAdd false (.dat (.list xs)) (.dat (.list ys)) = (lsOf (.dat (.list ys))).bind fun zs => if szOk (xs.length + zs.length) = true then mkl false (xs.map Sv.dat ++ zs) else M.fail := rfl
  rw [u, bind_ok e, if_pos z, ← List.map_append, mkl_dat]
theorem lix_at {xs : List PyData} {i : Int} {d : PyData} (h : atI xs i = some d) (μ : Mu) : pIx (.dat (.list xs)) (svI i) μ = some (.ok (.dat d) μ) := by
  have e : lsOf (.dat (.list xs)) μ = some (.ok (xs.map Sv.dat) μ) := rfl
  have u : pIx (.dat (.list xs)) (svI i) = (lsOf (.dat (.list xs))).bind fun zs => orFail (atI zs i) := rfl
  rw [u, bind_ok e, show atI (xs.map Sv.dat) i = some (Sv.dat d) from atI_map h]
  rfl
theorem tix_at {xs : List PyData} {i : Int} {d : PyData} (h : atI xs i = some d) (μ : Mu) : pIx (.dat (.tuple xs)) (svI i) μ = some (.ok (.dat d) μ) := by
  have u : pIx (.dat (.tuple xs)) (svI i) = (orFail (atI xs i)).bind fun d => M.ret (.dat d) := rfl
  rw [u, h]
  rfl
theorem blen_at (xs : List PyData) (μ : Mu) : bLen [.dat (.list xs)] μ = some (.ok (svI (xs.length : Nat)) μ) := by
  have e : lsOf (.dat (.list xs)) μ = some (.ok (xs.map Sv.dat) μ) := rfl
  have u : bLen [.dat (.list xs)] = (lsOf (.dat (.list xs))).bind fun zs => M.ret (.dat (.int zs.length)) := rfl
  rw [u, bind_ok e, List.length_map]
  rfl
theorem lst1_at {F : Rho → M Sv} {ρ : Rho} {μ μ1 : Mu} {d : PyData} (e : F ρ μ = some (.ok (.dat d) μ1)) : lstV false (argC F argN) ρ μ = some (.ok (.dat (.list [d])) μ1) := by
  unfold lstV argC argN
  simp only [M.bind, ret_at, e]
  rfl
theorem lst2_at {F G : Rho → M Sv} {ρ : Rho} {μ μ1 μ2 : Mu} {d e : PyData} (e1 : F ρ μ = some (.ok (.dat d) μ1)) (e2 : G ρ μ1 = some (.ok (.dat e) μ2)) : lstV false (argC F (argC G argN)) ρ μ = some (.ok (.dat (.list [d, e])) μ2) := by
  unfold lstV argC argN
  simp only [M.bind, ret_at, e1, e2]
  rfl
theorem skip_at {F : Rho → M Bool} {G : Rho → M Out} {ρ : Rho} {μ μ' : Mu} (h : F ρ μ = some (.ok false μ')) : gIf F G gSkip ρ μ = some (.ok (.nx ρ) μ') := by
  rw [if_f h]
  rfl
theorem not_at {F : Rho → M Bool} {ρ : Rho} {μ μ' : Mu} {b : Bool} (h : F ρ μ = some (.ok b μ')) : notT F ρ μ = some (.ok (!b) μ') := by
  unfold notT
  rw [bind_ok h]
  rfl
theorem or_f {F G : Rho → M Bool} {ρ : Rho} {μ μ1 : Mu} (h : F ρ μ = some (.ok false μ1)) : orT F G ρ μ = G ρ μ1 := by
  unfold orT
  rw [bind_ok h]
  rfl
theorem tst_at {F : Rho → M Sv} {ρ : Rho} {μ μ1 : Mu} {b : Bool} (h : F ρ μ = some (.ok (.dat (.bool b)) μ1)) : tst F ρ μ = some (.ok b μ1) := by
  unfold tst
  rw [bind_ok h]
  rfl
theorem call1_at {Fm : List Sv → M Sv} {F : Rho → M Sv} {ρ : Rho} {μ μ1 : Mu} {a : Sv} (h : F ρ μ = some (.ok a μ1)) : callF Fm 1 (argC F argN) ρ μ = Fm [a] μ1 := by
  unfold callF argC argN
  simp only [M.bind, ret_at, h]
  rfl
theorem call2_at {Fm : List Sv → M Sv} {F G : Rho → M Sv} {ρ : Rho} {μ μ1 μ2 : Mu} {a b : Sv} (h : F ρ μ = some (.ok a μ1)) (h2 : G ρ μ1 = some (.ok b μ2)) : callF Fm 2 (argC F (argC G argN)) ρ μ = Fm [a, b] μ2 := by
  unfold callF argC argN
  simp only [M.bind, ret_at, h, h2]
  rfl
theorem call3_at {Fm : List Sv → M Sv} {F G H : Rho → M Sv} {ρ : Rho} {μ μ1 μ2 μ3 : Mu} {a b c : Sv} (h : F ρ μ = some (.ok a μ1)) (h2 : G ρ μ1 = some (.ok b μ2)) (h3 : H ρ μ2 = some (.ok c μ3)) : callF Fm 3 (argC F (argC G (argC H argN))) ρ μ = Fm [a, b, c] μ3 := by
  unfold callF argC argN
  simp only [M.bind, ret_at, h, h2, h3]
  rfl
theorem callV1_at {op : List Sv → M Sv} {F : Rho → M Sv} {ρ : Rho} {μ μ1 : Mu} {a : Sv} (h : F ρ μ = some (.ok a μ1)) : callV op (argC F argN) ρ μ = op [a] μ1 := by
  unfold callV argC argN
  simp only [M.bind, ret_at, h]
theorem par_at {i j : Nat} {F G : Rho → M Sv} {ρ : Rho} {μ μ1 μ2 : Mu} {a b : Sv} (h : F ρ μ = some (.ok a μ1)) (h2 : G ρ μ1 = some (.ok b μ2)) : gPar i j (argC F (argC G argN)) ρ μ = some (.ok (.nx ((ρ.set i (some a)).set j (some b))) μ2) := by
  unfold gPar argC argN
  simp only [M.bind, ret_at, h, h2]
/-- twice the same -/
theorem twice {F : Rho → M Sv} {ρ : Rho} {μ : Mu} {d : PyData} {k : Nat} (h : ∀ s, F ((wipeR ρ [k]).set k (some s)) μ = some (.ok (.dat d) μ)) : lcV false [k] (rngV (con (.int 2))) (gNm k) yes F ρ μ = some (.ok (.dat (.list [d, d])) μ) := by
  rw [lcV_at (fun _ => .dat d) (ds := fromTo 0 2) rfl (by decide) fun e _ => ⟨_, rfl, h (.dat e)⟩]
  rfl
end Pf

namespace Pf
open PySem PySem.Spec PyProof.Rows L2 HT
/-! ### t[::-1] of a tuple -/
section
variable {prog : Program} {w : World} {A : Around} {E : Value → Shared → Prop} {s : Shared}
theorem adj_rev (n : Nat) : Builtin.Slice.sliceAdjust none none (-1) (n : Int) = ((n : Int) - 1, -1) := by
  unfold Builtin.Slice.sliceAdjust
  simp
theorem plc_rev (n : Nat) : Builtin.Slice.slicePlaces ((n : Int) - 1) (-1) (-1) = n := by
  unfold Builtin.Slice.slicePlaces
  simp
  try omega
theorem apl_rev {sl : Addr} {n : Nat} {t : Tok} {Q : Int × Int × Nat → Shared → Prop} (hs : s.heap.IsSliceOf sl .none .none (.int (-1) t)) (h : Q ((n : Int) - 1, -1, n) s) : wpAny (model prog w) A (Builtin.Slice.sliceApplied (.ref sl) (pure (n : Int))) Q E s := by
  obtain ⟨ob, e1, e2, e3⟩ := id hs
  unfold Builtin.Slice.sliceApplied Builtin.Slice.sliceFields
  refine wpAny_bind (wpAny_bind (wpAny_field e1 e3 (x := .none) rfl (wpAny_bind (wpAny_field e1 e3 (x := .none) rfl (wpAny_bind (wpAny_field e1 e3 (x := .int (-1) t) rfl (wpAny_pure ?_)))))))
  refine wpAny_bind (slicePart_ (.int (-1) t) ?_)
  show wpAny _ _ (if ((-1 : Int) == 0) = true then _ else _) _ _ s
  rw [if_neg (by decide)]
  refine wpAny_bind (slicePart_ .none (wpAny_bind (slicePart_ .none (wpAny_bind (wpAny_pure ?_)))))
  show wpAny _ _ (match Builtin.Slice.sliceAdjust none none (-1) (n : Int) with | (lo, hi) => pure (lo, (-1 : Int), Builtin.Slice.slicePlaces lo hi (-1))) _ _ s
  rw [adj_rev]
  show wpAny _ _ (pure ((n : Int) - 1, (-1 : Int), Builtin.Slice.slicePlaces ((n : Int) - 1) (-1) (-1))) _ _ s
  rw [plc_rev]
  exact wpAny_pure h
theorem fm_congr {α β : Type} {f g : α → Option β} : ∀ {l : List α}, (∀ k ∈ l, f k = g k) → l.filterMap f = l.filterMap g
  | [], _ => rfl
  | k :: l, h => by
    rw [List.filterMap_cons, List.filterMap_cons, h k List.mem_cons_self, fm_congr (l := l) fun j hj => h j (List.mem_cons_of_mem _ hj)]
theorem pick_rev (xs : Array Value) : ((List.range xs.size).filterMap fun (k : Nat) => xs[(((xs.size : Int) - 1) + (k : Int) * (-1)).toNat]?).toArray = xs.toList.reverse.toArray := by
  have := PySem.W.krv_all xs
  rw [← this, ← List.filterMap_reverse, ← PySem.W.krv_range, List.filterMap_map]
  congr 1
  refine fm_congr fun k hk => ?_
  have hk' := List.mem_range.mp hk
  show _ = xs[xs.size - 1 - k]?
  congr 1
  omega
theorem get_rev {t sl : Addr} {items : Array Value} {tk : Tok} {Q : Value → Shared → Prop} (ht : IsTup s.heap t items) (hs : s.heap.IsSliceOf sl .none .none (.int (-1) tk))
    (h : Q (.ref s.heap.objs.size) { s with heap := s.heap.push { cls := .type "tuple", data := .seq items.toList.reverse.toArray } }) (hsz : items.size ≤ sizeLine) : wpAny (model prog w) A (getItem (.ref t) (.ref sl)) Q E s := by
  have hdrop : sizeOk (.seq items.toList.reverse.toArray) := by
    show items.toList.reverse.toArray.size ≤ sizeLine
    rw [List.size_toArray, List.length_reverse, Array.length_toList]
    exact hsz
  obtain ⟨ob, e1, e2, e3⟩ := id hs
  have ty : s.TypeIs (.ref sl) "slice" := ⟨ob, e1, e2⟩
  unfold getItem
  try with_reducible refine wpAny_holding ?_
  first
    | refine wpAny_bind (wpAny_pure ?_)
    | skip
  refine wpAny_bind (wpAny_sequenceKey ht.typeIs (by decide) (wpAny_bind (wpAny_callSpecial?_slot (name := Str.ofString "__getitem__") ht.typeIs PyProof.Rows.slot_tuple_getitem (wpAny_call_entry PyProof.Rows.slot_tuple_getitem ht.typeIs entry_tuple_getitem ?_ (args_tuple_getitem _ _)))))
  show wpAny _ _ (Builtin.Tuple.tupleItemsOf (.ref t) >>= _) _ _ s
  refine wpAny_bind (tupleItemsOf_ ht (wpAny_bind (wpAny_typeOf ty ?_)))
  rw [if_pos (by decide)]
  refine wpAny_bind (apl_rev hs ?_)
  have hno : ¬ ((((items.size : Int) - 1) == 0 && (-1 : Int) == 1 && items.size == items.size) = true) := by simp
  show wpAny _ _ (if (((items.size : Int) - 1) == 0 && (-1 : Int) == 1 && items.size == items.size) = true then _ else _) _ _ s
  rw [if_neg hno, pick_rev items]
  first
    | exact wpAny_bind (m := Builtin.Tuple.tupleExact _) (wpAny_newObj_type (wpAny_pure ⟨_, rfl, wpAny_pure h⟩) hdrop)
    | exact wpAny_bind (m := Builtin.Tuple.tupleExact _) (wpAny_newObj_type (wpAny_bind (wpAny_pure (wpAny_pure ⟨_, rfl, wpAny_pure h⟩))) hdrop)
    | exact wpAny_bind (wpAny_bind (m := Builtin.Tuple.tupleExact _) (wpAny_newObj_type (wpAny_pure (wpAny_pure ⟨_, rfl, wpAny_pure h⟩)) hdrop))
    | exact wpAny_bind (wpAny_bind (m := Builtin.Tuple.tupleExact _) (wpAny_newObj_type (wpAny_pure ⟨_, rfl, wpAny_pure h⟩) hdrop))
end
section
variable {X : Cx} {E : XK} {a b c e : Expr} {Fa Fb Fc : Rho → M Sv} {pos p : Pos}
def tRevT (K : PySem.W.Frag) (te : TE) : TE := fun σ H Q => te σ H fun x H1 => ∃ a xs, x = .ref a ∧ SqT K H1 a xs ∧ ∀ p, H1 p = none → Q (.ref p) (upd H1 p (.tup xs.reverse))
theorem pe_revT {te : TE} {k : Nat} {p1 p2 p3 : Pos} (he : PE X e te) : PE X (.Subscript e (.Slice none none (some (.UnaryOp .USub (.Constant (.int 1) k p1) p2)) p3) pos) (tRevT X.K te) := by
  constructor
  intro pins s σ H Q I h
  refine Subscript_ (thn (he.run pins s σ H _ I h) fun v s1 ⟨x, H1, I1, r1, a, xs, ex, hx, q⟩ => ?_)
  subst ex
  cases r1
  have step : PO X (some (.UnaryOp .USub (.Constant (.int 1) k p1) p2)) (tPart (tUn (rU fun i => .int (-i)) (tC (.int 1)))) := po_some (pe_un un_neg pe_int)
  refine wpAny_Slice (thn (po_none.run pins s1 σ H1 (fun o Hx => o = none ∧ Hx = H1) I1 ⟨rfl, rfl⟩) fun vl s2 ⟨l, H2, I2, pl, z1, z2⟩ => ?_)
  subst z1 z2
  refine thn (po_none.run pins s2 σ H2 (fun o Hx => o = none ∧ Hx = H2) I2 ⟨rfl, rfl⟩) fun vu s3 ⟨u, H3, I3, pu, z1, z2⟩ => ?_
  subst z1 z2
  refine thn (step.run pins s3 σ H3 (fun o Hx => o = some (-1) ∧ Hx = H3) I3 ⟨1, rfl, -1, rfl, rfl, rfl⟩) fun vs s4 ⟨o, H4, I4, ps, z1, z2⟩ => ?_
  subst z1 z2
  have I5 : Inv X pins σ H4 { s4 with heap := s4.heap.push { cls := .type "slice", data := .fields #[vl, vu, vs] } } := I4.kept (t' := s4.toks) fun b ob q => Heap.get?_push_of_some _ q
  obtain ⟨its, r, ht, hz⟩ := I5.tuple hx
  have ln := r.length
  show wpAny (model X.prog X.w) X.A (subscriptTail e (.Slice none none (some (.UnaryOp .USub (.Constant (.int 1) k p1) p2)) p3) (.ref a) (.ref s4.heap.objs.size)) (EP X pins σ Q) X.xe { s4 with heap := s4.heap.push { cls := .type "slice", data := .fields #[vl, vu, vs] } }
  cases pl
  cases pu
  cases ps
  refine tail_any (ops := [.ref a, .ref s4.heap.objs.size]) ht.typeIs PyProof.Rows.slot_tuple_getitem.lookup ?_ (by with_unfolding_all rfl)
  refine get_rev ht (Heap.IsSliceOf.new _ _ _ _) ?_ (by rw [List.size_toArray]; omega)
  exact ⟨.ref _, _, I5.laid (t' := s4.toks) (o := .tup xs.reverse) (fun b ob q => Heap.get?_push_of_some _ q) (Nat.le_refl _) ⟨by rw [List.length_reverse]; exact hz, _, r.reverse, IsTup.new _ _⟩, rfl, q _ (I5.hok.fresh (Nat.le_refl _))⟩
def revTV (Fa : Rho → M Sv) (ρ : Rho) : M Sv := (Fa ρ).bind fun s => match s with
  | .dat (.tuple ds) => M.ret (.dat (.tuple ds.reverse))
  | _ => M.fail
theorem x_revT {k : Nat} {p1 p2 p3 : Pos} (he : PX X E a Fa) : PX X E (.Subscript a (.Slice none none (some (.UnaryOp .USub (.Constant (.int 1) k p1) p2)) p3) pos) (revTV Fa) := pe_weak (pe_revT he) fun σ H Q ⟨W, ρ, μ, r, h, e, q⟩ => by
  refine tX_bind h e q fun v s W1 H1 μ1 g1 h1 rs e1 q1 => ?_
  split at e1
  · cases e1
    cases rs with
    | tup h4 r4 => exact ⟨_, _, rfl, seqT_mono h1.rel.sub h4, fun p hp => dq_tup h1.rel hp r4.reverse rfl q1⟩
  · cases e1
/-! ### int(a bool) -/
def bInt (ss : List Sv) : M Sv := match ss with
  | [.dat (.bool b)] => M.ret (.dat (.int (if b = true then 1 else 0)))
  | _ => M.fail
theorem b_int : CallR X (.type "int") (rC X.K E bInt) := by
  intro pins s σ H xs us Q I rv ⟨W, μ, ss, r, R, rs, e, q⟩
  unfold bInt at e
  split at e
  · cases e
    obtain ⟨x, rfl, h⟩ := rels1 rs
    obtain ⟨u, rfl, rx⟩ := vals1 rv
    cases h
    cases (show u = Value.bool _ from rx)
    exact call_int_bool ⟨.int _, H, I.tok _, ⟨_, rfl⟩, q _ _ (Grow.refl _ _ _) R _ (.int _)⟩
  · cases e
/-! ### dicts -/
theorem x_dict0 : PX X E (.Dict [] [] pos) (con (.dict [])) := pe_weak pe_dnewK fun σ H Q ⟨W, ρ, μ, r, h, e, q⟩ p hp => by
  cases e
  exact q _ _ (grow_share h.rel hp) (h.rel.share hp) _ (.dct upd_same .nil)
theorem x_dict1 {x : Str} {i : Int} {j1 j2 : Nat} {p1 p2 : Pos} : PX X E (.Dict [some (.Constant (.str x) j1 p1)] [.Constant (.int i) j2 p2] pos) (con (.dict [(.str x, .int i)])) :=
  pe_weak (pe_disp (pps_cons pe_str pe_int pps_nil) rfl rfl (by simp) (show 1 ≤ 15 by decide)) fun σ H Q ⟨W, ρ, μ, r, h, e, q⟩ p hp => by
    cases e
    refine ⟨upd_same, [(.inr x, .int i)], rfl, show 1 ≤ 15 by decide, ?_⟩
    have : upd (upd H p (.dK [])) p (.dK (mergeK [] [(.inr x, .int i)])) = upd H p (.dK [(.inr x, .int i)]) := by
      funext b
      by_cases hb : b = p
      · rw [hb, upd_same, upd_same]
        rfl
      · rw [upd_ne hb, upd_ne hb, upd_ne hb]
    rw [this]
    exact q _ _ (grow_share h.rel hp) (h.rel.share hp) _ (.dct upd_same (.cons (.str x) (.int i) .nil))
/-! ### enumerate(a tuple) -/
def Itet (K : PySem.W.Frag) (a : Addr) : It :=
  ⟨fun i H => ∃ (xs : List V) (x : V), SqT K H a xs ∧ xs[i]? = some x,
    fun i H v H' => ∃ T x, v = .ref T ∧ H T = none ∧ H' = upd H T (.tup [.int (i : Nat), x]) ∧ ∀ ys, SqT K H a ys → ys[i]? = some x,
    fun i H => ∃ ys : List V, SqT K H a ys ∧ ys.length ≤ i⟩
theorem turn_enumT {P : Program} {w : World} {K : PySem.W.Frag} {elts : List Expr} {kk : Nat} {tpos : Pos} (a e it : Addr) (n1 : e ≠ it) (n2 : a ≠ it) (n3 : e ≠ a) :
    Turn P w K (.Tuple elts kk tpos) (Itet K a) [e, it] e (fun i h => (∃ old, IsEnum h e it ((i : Nat) : Int) old) ∧ h.IsTupleIter it a i) where
  mem := by simp
  obj := fun i h ⟨⟨old, he⟩, ⟨o, ho, hc, hd⟩⟩ b hb => by
    rcases List.mem_cons.mp hb with z | z
    · rw [z]
      exact ⟨_, he, fun v q => nomatch q⟩
    · rw [List.mem_singleton.mp z]
      exact ⟨o, ho, fun v q => by rw [hd] at q; cases q⟩
  keep := fun i h h' ⟨⟨old, he⟩, hi⟩ k => ⟨⟨old, k e (by simp) _ he⟩, hi.at fun o q => k it (by simp) o q⟩
  item := by
    intro X hP hw hK hc i pins s σ H E I hf ⟨⟨old, he⟩, hit⟩ ⟨xs, x, hq, hx⟩
    subst hP hw hK
    obtain ⟨its, rv, p, hz⟩ := I.tuple hq
    obtain ⟨u, hu, ru⟩ := rv.get hx
    have hel : e < s.heap.objs.size := Heap.lt_size he
    have hil : it < s.heap.objs.size := let ⟨_, q, _⟩ := hit; Heap.lt_size q
    have hh : X.A.in1.handled = none := I.ok.hd hc
    have D := Draws.tuple (prog := X.prog) (w := X.w) (A := X.A.in1) hh it a n2 its.toArray
    have hi : i < its.toArray.size := by
      rw [List.size_toArray]
      exact (List.getElem?_eq_some_iff.mp hu).1
    refine wpAny_pyNext_enum_itemD D he ⟨hit, p⟩ hi n1 (by simp [n1, n3]) fun y h' tk hy ho ⟨hit', _⟩ hT hsz hk => ?_
    have ey : y = u := by
      have z : its.toArray[i]? = some u := by simpa using hu
      exact Option.some.inj (hy.symm.trans z)
    subst ey
    refine ⟨_, rfl, wpAny_letOwnedTupleGo_enum (s := { s with heap := h', toks := tk + 1 }) ho fun h'' he' sb => ?_⟩
    have hT2 : h''.get? s.heap.objs.size = some { cls := .type "tuple", data := .seq #[.int i tk, y] } := (sb.2 _ (Nat.ne_of_gt hel)).trans hT
    have new : ObjOk X.prog X.w (upd H s.heap.objs.size (.tup [.int (i : Nat), x])) h'' s.heap.objs.size (.tup [.int (i : Nat), x]) := by
      refine ⟨?_, [.int i tk, y], .cons ⟨_, rfl⟩ (.cons ru .nil), ⟨_, hT2, rfl, _, rfl⟩⟩
      show 2 ≤ sizeLine
      decide
    have I1 : Inv X pins σ (upd H s.heap.objs.size (.tup [.int (i : Nat), x])) { s with heap := h'', toks := tk + 1 } := by
      refine I.turnedNew (ch := [e, it]) (fun b ob hb q => ?_) hf (Nat.le_refl _) new
      have b1 : b ≠ e := fun z => hb (by simp [z])
      have b2 : b ≠ it := fun z => hb (by simp [z])
      exact (sb.2 b b1).trans (hk b ob b1 b2 q)
    refine ⟨.ref s.heap.objs.size, _, I1, rfl, ⟨_, x, rfl, I.hok.fresh (Nat.le_refl _), rfl, fun ys hy => by rw [I.tuple_inj hy hq]; exact hx⟩, ⟨⟨y, ?_⟩, hit'.at fun o q => (sb.2 it (Ne.symm n1)).trans q⟩, fun b hb => ?_⟩
    · rw [show ((i + 1 : Nat) : Int) = (i : Int) + 1 from by omega]
      exact he'
    · have hb' : b < s.heap.objs.size := by
        rcases List.mem_cons.mp hb with z | z
        · rw [z]
          exact hel
        · rw [List.mem_singleton.mp z]
          exact hil
      rw [upd_ne (Nat.ne_of_lt hb')]
      exact (hf b hb).1
  done := by
    intro X hP hw hK hc i pins s σ H E I hf ⟨⟨old, he⟩, hit⟩ ⟨xs, hq, hx⟩
    subst hP hw hK
    obtain ⟨its, rv, p, hz⟩ := I.tuple hq
    obtain ⟨f0, f1, f2, f3, f4, f5⟩ := hf it (by simp)
    have hl := rv.length
    have hT : s.TypeIs (.ref e) "enumerate" := ⟨_, he, rfl⟩
    unfold pyNext
    refine wpAny_bind (wpAny_attempt (wpAny_callSpecial?_slot (name := Str.ofString "__next__") hT F.slot_enumerate_next (wpAny_call_entry F.slot_enumerate_next hT F.entry_enumerate_next ?_ (F.args_enumerate_next_1 _))))
    show wpAny _ _ (field (.ref e) 2 >>= _) _ _ _
    refine wpAny_bind (wpAny_field he rfl (x := .ref it) rfl (wpAny_bind (wpAny_nextOf_tuple_end (I.ok.hd hc) hit p (by simp; omega) fun h' y eb ⟨o, ho, hcl⟩ => ?_)))
    exact wpAny_bind (wpAny_isInstance (T := "StopIteration") (b := true) ⟨o, ho, hcl⟩ isSubtype_stop (wpAny_pure ⟨rfl, I.turned (t' := s.toks) (fun b o hb q => eb b o hb q) f0 f1 f3 f4 f5⟩))
  self := fun A i s Q E ⟨⟨_, he⟩, _⟩ h => wpAny_pyIter_enum he h
end
set_option maxHeartbeats 1000000 in
theorem meets_enumT (t : Addr) (items : Array Value) : Meets (Builtin.«enumerate.__new__» ⟨[.type "enumerate", .ref t], []⟩) (fun _ R s => s.heap.IsTuple t items ∧
      R (.ok (.ret (.ref (s.heap.push { cls := .type "tuple_iterator", data := .fields #[.ref t, .int 0 0] }).objs.size)))
        { s with heap := (s.heap.push { cls := .type "tuple_iterator", data := .fields #[.ref t, .int 0 0] }).push { cls := .type "enumerate", data := .fields #[.none, .bool false, .ref s.heap.objs.size, rawInt 0, .none, .none] } }) :=
  .of_wp fun prog w A R s h => by
    obtain ⟨hp, g, d, tk, os⟩ := s
    obtain ⟨h1, h⟩ := h
    have sub := sub_enumerate
    have B := begins_tuple t items
    have q1 : ∀ {A' : Around} {E : Value → Shared → Prop} {Q : Value → Shared → Prop}, Q (.ref hp.objs.size) ⟨hp.push { cls := .type "tuple_iterator", data := .fields #[.ref t, .int 0 0] }, g, d, tk, os⟩ → wpAny (model prog w) A' (pyIter (.ref t)) Q E ⟨hp, g, d, tk, os⟩ :=
      fun q => B.iter prog w _ _ ⟨hp, g, d, tk, os⟩ _ h1 q
    wp_walk using q1
    refine wpAny_stack_any fun st => wpAny_pure ?_
    split
    · rename_i c _ _ _ _ _
      cases (c == Value.type "enumerate")
      · (wp_walk using q1); exact ⟨_, rfl, h⟩
      · (wp_walk using q1); exact ⟨_, rfl, h⟩
    · (wp_walk using q1); exact ⟨_, rfl, h⟩
section
variable {prog : Program} {w : World} {A : Around} {E : Value → Shared → Prop} {s : Shared}
theorem call_enumT {t : Addr} {items : Array Value} {Q : Value → Shared → Prop} (h1 : s.heap.IsTuple t items)
    (h : ∀ h', IsEnum h' (s.heap.objs.size + 1) s.heap.objs.size 0 .none → h'.IsTupleIter s.heap.objs.size t 0 → (∀ b o, s.heap.get? b = some o → h'.get? b = some o) → Q (.ref (s.heap.objs.size + 1)) { s with heap := h' }) :
    wpAny (model prog w) A (call (.type "enumerate") [.ref t]) Q E s := by
  have M := meets_enumT t items
  have C := @callType_new
  refine callType_new F.called_enumerate (by decide) (F.typeCall_enumerate_1 _) (F.newCall_enumerate_1 _) (fun obj => F.args_object_init_2 obj _) F.entry_enumerate_new M ⟨h1, ?_⟩
  have hz : (s.heap.push { cls := .type "tuple_iterator", data := .fields #[.ref t, .int 0 0] }).objs.size = s.heap.objs.size + 1 := Heap.size_push ..
  show _ ∧ _
  rw [hz]
  have he : IsEnum ((s.heap.push { cls := .type "tuple_iterator", data := .fields #[.ref t, .int 0 0] }).push { cls := .type "enumerate", data := .fields #[.none, .bool false, .ref s.heap.objs.size, rawInt 0, .none, .none] }) (s.heap.objs.size + 1) s.heap.objs.size 0 .none := by
    have z := Heap.get?_push_size (s.heap.push { cls := .type "tuple_iterator", data := .fields #[.ref t, .int 0 0] }) (o := { cls := .type "enumerate", data := .fields #[.none, .bool false, .ref s.heap.objs.size, rawInt 0, .none, .none] }) rfl
    rw [hz] at z
    exact z
  exact ⟨⟨_, he, rfl⟩, h _ he ⟨_, Heap.get?_push_of_some _ (Heap.get?_push_size _ rfl), rfl, rfl⟩ fun b o x => Heap.get?_push_of_some _ (Heap.get?_push_of_some _ x)⟩
end
section
variable {X : Cx} {E : XK} {a b c e : Expr} {Fa Fb Fc : Rho → M Sv} {pos p tpos : Pos}
def iEnumT (K : PySem.W.Frag) (ta : TA) : TI := fun σ H R => ta σ H fun vs H1 => ∃ a xs, vs = [.ref a] ∧ SqT K H1 a xs ∧ R (Itet K a) H1
theorem pi_enumT {ta : TA} {elts : List Expr} {kk : Nat} (hg : Gl X "enumerate") (hm : X.mg "enumerate" = none) (ha : PA X [e] ta) (hs : starEach [e] X.env = [(false, eval e X.env)] := by rfl) :
    PI X (.Tuple elts kk tpos) (.Call (.Name "enumerate" p) [e] [] pos) (iEnumT X.K ta) := by
  constructor
  intro pins s σ H R I h
  refine Call_ (ld_blt I hg hm boot_enumerate (PyProof.Rows.callWith_type1 (thn (ha.run pos pins s σ H _ I h) fun us s1 ⟨vs, H1, I1, r1, a, xs, ex, hq, q⟩ => ?_) hs rfl))
  subst ex
  obtain ⟨u, rfl, rx⟩ := vals1 r1
  cases rx
  obtain ⟨its, rv, p', hz⟩ := I1.tuple hq
  have hal : a < s1.heap.objs.size := let ⟨_, z, _⟩ := p'; Heap.lt_size z
  refine call_enumT p' fun h' he hit hk => wpAny_pyIter_enum he ?_
  refine ⟨s1.heap.objs.size + 1, [s1.heap.objs.size + 1, s1.heap.objs.size], _, _, H1, rfl, I1.kept (t' := s1.toks) hk, turn_enumT a (s1.heap.objs.size + 1) s1.heap.objs.size (Nat.succ_ne_self _) (Nat.ne_of_lt hal) (Nat.ne_of_gt (Nat.lt_succ_of_lt hal)), ⟨⟨.none, he⟩, hit⟩, fun b hb => ?_, q⟩
  have hle : s1.heap.objs.size ≤ b := by
    rcases List.mem_cons.mp hb with z | z
    · rw [z]
      exact Nat.le_succ _
    · rw [List.mem_singleton.mp z]
      exact Nat.le_refl _
  exact I1.fpOk hle (I1.hok.fresh hle)
def enuD (ds : List PyData) : List PyData := zipD (fromTo 0 ds.length) ds
theorem enu_len {ds : List PyData} : (enuD ds).length = ds.length := by
  unfold enuD zipD fromTo
  rw [List.length_zipWith, List.length_map, List.length_range, Nat.min_self]
theorem enu_at {ds : List PyData} {i : Nat} {d : PyData} (h : (enuD ds)[i]? = some d) : ∃ x, ds[i]? = some x ∧ d = .tuple [.int (i : Nat), x] := by
  obtain ⟨d1, d2, e1, e2, rfl⟩ := zip_at h
  obtain ⟨_, rfl⟩ := fromTo_at e1
  exact ⟨d2, e2, by rw [Int.zero_add]⟩
theorem wk_enu {K : PySem.W.Frag} {W : Wd} {a : Addr} {vs : List V} {ds : List PyData} (h : SqT K W.S a vs) (r : Dqs K W.S vs ds) : Wk K (Itet K a) W (enuD ds) where
  go := fun i d W1 H μ g R e => by
    obtain ⟨y, e2, rfl⟩ := enu_at e
    obtain ⟨v, a1, _⟩ := r.getD e2
    exact ⟨vs, v, seqT_mono R.sub (seqT_mono g h), a1⟩
  yld := fun i d W1 H μ x H' g R e y => by
    obtain ⟨z, e2, rfl⟩ := enu_at e
    obtain ⟨T, x1, rfl, nT, rfl, f1⟩ := y
    obtain ⟨v, a1, q1⟩ := r.getD e2
    have z1 := f1 vs (seqT_mono R.sub (seqT_mono g h))
    rw [a1] at z1
    cases z1
    exact pair_new R nT (.int _) (Dq.mono g q1)
  stop := fun i W1 H μ g R e => ⟨vs, seqT_mono R.sub (seqT_mono g h), by rw [r.len, ← enu_len]; exact e⟩
def enuV (Fa : Rho → M Sv) (ρ : Rho) : M (List PyData) := (Fa ρ).bind fun s => match s with
  | .dat (.tuple ds) => M.ret (enuD ds)
  | _ => M.fail
theorem i_enu {elts : List Expr} {kk : Nat} (hc : X.calm = true) (hm : X.mg "enumerate" = none) (ha : PX X E a Fa) (hg : Gl X "enumerate" := by rfl) (hs : starEach [a] X.env = (false, eval a X.env) :: starEach [] X.env := by rfl) (hs2 : starEach [a] X.env = [(false, eval a X.env)] := by rfl) :
    PIX X E (.Tuple elts kk tpos) (.Call (.Name "enumerate" p) [a] [] pos) (enuV Fa) := pi_weak (pi_enumT hg hm (pa_cons ha pa_nil hs) hs2) fun σ H R ⟨W, ρ, μ, r, h, e, q⟩ => by
  refine tX_bind h e q fun v s W1 H1 μ1 g1 h1 rs e1 q1 => ?_
  split at e1
  · cases e1
    cases rs with
    | tup z1 y1 => exact ⟨_, _, rfl, seqT_mono h1.rel.sub z1, q1 _ _ (Grow.refl _ _ _) h1.rel _ (wk_enu z1 y1)⟩
  · cases e1
end
end Pf

namespace Pf
open PySem PySem.Spec PyProof.Rows L2
/-! ### an error of the program's own, with one field -/
section
open PySem.W PySem.Calls PySem.HandSPX
def tlArgs (a b : Pos) : Arguments := { vararg := none, kwarg := none, posonlyargs := [], kwonlyargs := [], kw_defaults := [], defaults := [], args := [{ arg := "self", annotation := none, pos := a }, { arg := "bound", annotation := none, pos := b }] }
def tlBody (a b c d : Pos) : List Stmt := [.Assign [.Attribute (.Name "self" a) "bound" b] (.Name "bound" c) d]
def tlScope : Scope := { isGenerator := false, isCoroutine := false, more := [], kind := .function, names := [(PySem.Str.ofString "self", .local), (PySem.Str.ofString "bound", .local)] }
/-- what stands of TooLarge, at C, its __init__ at f -/
structure TL (K : Frag) (mg : Str → Option Value) (C f : Addr) : Prop where
  nC : nsIn K mainGlobals "TooLarge" = some (some (.ref C))
  gC : mg "TooLarge" = some (.ref C)
  ob : ∃ nm q N bs bm sn sub ab col dd m0 m1 m2 m3 m5, K.lookup C = some (excClassObj nm q C N bs bm true sn sub ab col dd m0 m1 m2 m3 m5 "ValueError.__new__") ∧ refsVE bm = true
  f_set : findIn K (.ref C) "__setattr__" = some (some (.builtin "object.__setattr__"))
  f_get : findIn K (.ref C) "__getattribute__" = some (some (.builtin "BaseException.__getattribute__"))
  f_at : findIn K (.ref C) "__getattr__" = some none
  f_fld : findIn K (.ref C) "bound" = some none
  f_ini : findIn K (.ref C) "__init__" = some (some (.ref f))
  f_cls : findIn K (.ref C) "__class__" = some (some (.builtin "object.__class__"))
  s_get : specialIn K (.builtin "object.__class__") "__get__" = some (some (.builtin "getset_descriptor.__get__"))
  tk : takesIn K (.builtin "object.__class__") = some true
  mro : mroIn K C (.type "object") = some true
  tyF : typeIn K (.ref f) = some (.type "function")
  kp : keepIn K (.ref C) = true
  sub : subIn K (.ref C) (.type "BaseException") = some true
  tyC : typeIn K (.ref C) = some (.type "type")
  dct : hasDictIn K C = true
  fn : ∃ (oc : Value) (od : Option Addr) (kV doc pm : Value) (an : Option Addr) (cdv ct : Value) (osl : Array (Option Value)) (p1 p2 q1 q2 q3 q4 : Pos),
    K.lookup f = some ⟨oc, od, .func (fnOf "__init__" "TooLarge.__init__" (tlArgs p1 p2) (tlBody q1 q2 q3 q4) tlScope .none kV doc pm an cdv ct), osl⟩ ∧ codeIn K cdv "TooLarge.__init__" = true
theorem sz_one (v : Value) : [v].length ≤ sizeLine := by
  rw [sizeLine_eq]
  show 1 ≤ 16777216
  decide
theorem ld_param {M : Model} {s : Shared} {nm : Str} {sc : Scope} {L a : Addr} {cdv : Value} {m : Str → Option Value} {y : Str} {pos : Pos} {v : Value} {Q : Value → Shared → Prop} {A : Around} {E : Value → Shared → Prop} (hn : s.heap.Ns L m) (hv : m y = some v) (h : Q v s)
    (hk : sc.kind = .function := by rfl) (hl : (envOfC nm sc L a cdv).kindOf y = some .local := by rfl) (hd : (y == ("__debug__" : Str)) = false := by decide) : wpAny M A (eval (.Name y pos) (envOfC nm sc L a cdv)) Q E s := by
  refine wpAny_Name (wpAny_loadName_local hk hl hn hv h) hd
/-- behind __init__ -/
structure TlEnd (h h' : Heap) (x C dx t1 : Addr) (v : Value) : Prop where
  rest : ∀ b o, b ≠ x → h.get? b = some o → h'.get? b = some o
  self : h'.get? x = some { cls := .ref C, data := .fields #[.ref t1, .none, .none, .none, .bool false, .none], dict := some dx }
  late : h.objs.size ≤ dx
  apart : dx ≠ x
  fld : h'.Ns1 dx (fun y => if y = "bound" then some v else none)
/-- behind the making -/
structure TlMade (h h' : Heap) (e C d : Addr) (v : Value) : Prop where
  rest : ∀ b o, h.get? b = some o → h'.get? b = some o
  new : h.objs.size ≤ e
  self : ∃ oe vs, h'.get? e = some oe ∧ oe.cls = .ref C ∧ oe.dict = some d ∧ oe.data = .fields vs ∧ vs[1]? = some .none
  late : h.objs.size ≤ d
  apart : d ≠ e
  fld : h'.Ns1 d (fun y => if y = "bound" then some v else none)
variable {prog : Program} {w : World} {A : Around} {E : Value → Shared → Prop} {R : Result → Shared → Prop} {s : Shared} {K : Frag} {mg : Str → Option Value} {C f : Addr}
theorem tl_init (T : TL K mg C f) {x t0 : Addr} {v : Value} (X : K.In s.heap) (lim : s.heap.NoLimit) (hx : s.heap.get? x = some (excO C t0)) (room : A.depth < recursionLimit)
    (fin : ∀ h' tk dx, TlEnd s.heap h' x C dx t0 v → R (.ok (.ret .none)) { s with heap := h', toks := tk }) : codeAny (model prog w) A (.call (.ref f) ⟨[.ref x, v], []⟩) R s := by
  obtain ⟨oc, od, kV, doc, pm, an, cdv, ct, osl, p1, p2, q1, q2, q3, q4, ho, hcd⟩ := T.fn
  obtain ⟨nm, q, N, bs, bm, sn, sub, ab, col, dd, m0, m1, m2, m3, m5, hC, hbm⟩ := T.ob
  have cd : clsIn K C = some { name := nm, bases := bs, mro := .ref C :: bm, ns := N, qualname := q, hasDict := true, slotNames := sn, subclasses := sub, abstract := ab, collection := col, hasDel := false } := by
    unfold clsIn
    rw [hC] <;> rfl
  refine Att.call_fn (binds := [("self", .ref x), ("bound", v)]) X lim ho hcd room (BindsTo.of_eq (by first | rfl | with_unfolding_all rfl)) (by first | rfl | decide | with_unfolding_all rfl) (fun s₁ ic => ?_) rfl rfl rfl
  obtain ⟨h₁, tk₁, rfl⟩ := ic.toInCall.same
  have keep := ic.toInCall.keep
  have ns := ic.toInCall.ns
  have X₁ : K.In h₁ := X.keeps keep
  have hx₁ := keep _ _ hx
  show wpAny _ _ (execs _ _) _ _ _
  refine wpAny_execs_cons (plainObj_wpAny_Assign_Attribute (ld_param (v := v) ns (by first | rfl | with_unfolding_all rfl | kernel_rfl) (ld_param (v := .ref x) ns (by first | rfl | with_unfolding_all rfl | kernel_rfl) ?_)))
  refine set_plain X₁ (ox := excO C t0) (od := none) ⟨hx₁, rfl, rfl, trivial⟩ T.f_set (exc_osa X₁ hx₁ cd (show refsVE (.ref C :: bm) = true from hbm) rfl T.f_fld (fun h₃ tk₃ dx k₃ dn dne hx₃ hn₃ => ?_))
  have lt : s.heap.objs.size < h₁.objs.size := ns.lt
  show wpAny _ _ (execs _ _) _ _ _
  exact wpAny_execs_nil (fin h₃ tk₃ dx ⟨fun b o hb e => k₃ b o hb (keep b o e), hx₃, Nat.le_of_lt (Nat.lt_of_lt_of_le lt dn), dne, hn₃⟩)
theorem tl_made (T : TL K mg C f) {v : Value} (X : K.In s.heap) (lim : s.heap.NoLimit) (room : A.depth + 1 < recursionLimit) (fin : ∀ h' tk e d, TlMade s.heap h' e C d v → R (.ok (.ret (.ref e))) { s with heap := h', toks := tk }) :
    codeAny (model prog w) A (.call (.ref C) ⟨[v], []⟩) R s := by
  obtain ⟨nm, q, N, bs, bm, sn, sub, ab, col, dd, m0, m1, m2, m3, m5, hC, hbm⟩ := T.ob
  obtain ⟨hp, g, dr, tk, os⟩ := s
  have keep : ∀ b o, hp.get? b = some o → ((hp.push (kdv_tup [v])).push (excO C hp.objs.size)).get? b = some o := fun b o e => Heap.get?_push_of_some _ (Heap.get?_push_of_some _ e)
  have at_ : ((hp.push (kdv_tup [v])).push (excO C hp.objs.size)).get? (hp.objs.size + 1) = some (excO C hp.objs.size) := by heap_get
  refine call_own F.excBase_ValueError (fun Y => refsVE_contains Y bm hbm) (X _ _ hC) (looks_findIn X T.f_ini) (fun self => bind_fn X self T.tyF) (sz_one v) ?_
  refine tl_init (s := ⟨(hp.push (kdv_tup [v])).push (excO C hp.objs.size), g, dr, tk, os⟩) T (X.keeps keep) (lim.keeps keep) at_ (show A.depth + 1 < recursionLimit from room) fun h' tk' dx ⟨k', hx, dn, dne, hns⟩ => ?_
  have old : ∀ b o, hp.get? b = some o → h'.get? b = some o := fun b o e => k' b o (Nat.ne_of_lt (Nat.lt_succ_of_lt (Heap.lt_size e))) (keep b o e)
  have z : hp.objs.size + 1 + 1 ≤ dx := by
    first
      | (simpa only [Heap.size_push] using dn)
      | exact dn
      | (have q := dn; rw [Heap.size_push, Heap.size_push] at q; exact q)
  refine ⟨rfl, fin h' tk' (hp.objs.size + 1) dx ⟨old, Nat.le_succ _, ⟨_, _, hx, rfl, rfl, rfl, rfl⟩, Nat.le_trans (Nat.le_trans (Nat.le_succ _) (Nat.le_succ _)) z, dne, hns⟩⟩
end
theorem rel_bound {v : V} {v' : Value} (r : RelV v v') (g : Str) : RelO (List.lookup g [(("bound" : Str), v)]) (if g = "bound" then some v' else none) := by
  by_cases h : g = "bound"
  · subst h
    rw [if_pos rfl, show List.lookup ("bound" : Str) [(("bound" : Str), v)] = some v by simp [List.lookup]]
    exact r
  · rw [if_neg h, show List.lookup g [(("bound" : Str), v)] = none by
      have n : (g == ("bound" : Str)) = false := by simpa using h
      simp [List.lookup, n]]
    trivial
section
variable {X : Cx} {E : XK} {C f : Addr} {k : Nat} {a e : Expr} {es : List Expr} {Fa : Rho → M Sv} {Fs Fk : Rho → M (List Sv)} {p pos pos2 : Pos}
def mkTl (C : Addr) (ta : TA) : L2.St → Hp → XK → Prop := fun σ H Q => ta σ H fun vs H1 => ∃ v, vs = [v] ∧ ∀ d, H1 d = none → Q (.ref C) (some d) (upd H1 d (.xd [(("bound" : Str), v)]))
theorem pmk_tl {ta : TA} (T : TL X.K X.mg C f) (hr : Room k X.A) (ha : PA X [a] ta) (hg : Gl X "TooLarge" := by rfl) (he : starEach (a :: []) X.env = (false, eval a X.env) :: starEach [] X.env := by rfl) (hpl : (backTo pos (starEach [] X.env)).any (·.1) = false := by rfl) :
    PMk X (.Call (.Name "TooLarge" p) [a] [] pos) (mkTl C ta) := by
  intro pins s σ H Q I h
  refine wpAny_Call_Name_kw (ld_glob I hg T.gC (PySem.W.callWith_K (h₀ := X.base) I.ok.mod.kin T.kp (thn (ha.run pos pins s σ H _ I h) fun us s1 ⟨vs, H1, I1, r1, v, ev, q1⟩ => ⟨I1.kIn, ?_⟩) he hpl))
  subst ev
  obtain ⟨u, rfl, rv⟩ := vals1 r1
  show wpAny _ _ (call (.ref C) [u]) _ _ _
  have lim := I1.nolimit
  obtain ⟨hp, g, dr, tk, os⟩ := s1
  refine wpAny_call (tl_made T I1.kIn lim (by have := hr.dp; omega) fun h' tk' e d mk => ?_)
  show MkP X pins σ Q (.ref e) ⟨h', g, dr, tk', os⟩
  obtain ⟨oe, fv, hoe, hc, hd, hdat, h1⟩ := mk.self
  obtain ⟨G, g1, g2⟩ := restrict h' fun b => decide (b ≠ e)
  have gk : ∀ b, b ≠ e → G.get? b = h'.get? b := fun b hb => g1 b (decide_eq_true hb)
  have ge : G.get? e = none := g2 e (by simp)
  have old : ∀ b o, hp.get? b = some o → G.get? b = some o := fun b o q => (gk b (Nat.ne_of_lt (Nat.lt_of_lt_of_le (Heap.lt_size q) mk.new))).trans (mk.rest b o q)
  have ob : ObjOk X.prog X.w (upd H1 d (.xd [(("bound" : Str), v)])) G d (.xd [(("bound" : Str), v)]) := ⟨_, mk.fld.at (fun o q => (gk d mk.apart).trans q), fun g => rel_bound rv g⟩
  have J : Inv X pins σ (upd H1 d (.xd [(("bound" : Str), v)])) ⟨G, g, dr, tk', os⟩ := I1.laid (t' := tk') old mk.late ob
  have none_e : upd H1 d (.xd [(("bound" : Str), v)]) e = none := by
    rw [upd_ne (Ne.symm mk.apart)]
    exact I1.hok.fresh mk.new
  refine ⟨e, oe, fv, ⟨G, g, dr, tk', os⟩, _, .ref C, some d, rfl, J, fun b o q => ?_, ge, hoe, ⟨hc, hd⟩, hdat, h1, none_e, rfl, I1.bare, raises_own T.sub T.tyC, q1 d (I1.hok.fresh mk.late)⟩
  have q0 : G.get? b = some o := q
  have hb : b ≠ e := fun z => by
    rw [z, ge] at q0
    cases q0
  exact (gk b hb).symm.trans q0
def gRaise (Fa : Rho → M Sv) (ρ : Rho) : M Out := (Fa ρ).bind fun s => M.thr ⟨"TooLarge", some ("bound", s)⟩
theorem s_raise (T : TL X.K X.mg C f) (hc : X.calm = true) (hr : Room k X.A) (tk : Takes X (fun cls d _ H => E cls d H)) (ha : PX X E a Fa) (hg : Gl X "TooLarge" := by rfl) (he : starEach (a :: []) X.env = (false, eval a X.env) :: starEach [] X.env := by rfl) (hpl : (backTo pos (starEach [] X.env)).any (·.1) = false := by rfl) :
    PSX X E (.Raise (some (.Call (.Name "TooLarge" p) [a] [] pos)) none pos2) (gRaise Fa) := ps_weak (ps_raise hc tk (pmk_tl T hr (pa_cons ha pa_nil he) hg he hpl)) fun D σ H ⟨W, ρ, μ, r, h, e, q⟩ => by
  refine tX_bind h e q fun v s W1 H1 μ1 g1 h1 rs e1 q1 => ⟨v, rfl, fun d hd => ?_⟩
  cases e1
  exact q1 W1 _ (.ref C) (some d) ((Grow.refl _ _ _).out hd fun b hb => upd_ne hb) (h1.rel.lay hd) ⟨⟨C, T.nC, rfl⟩, d, v, rfl, upd_same, rs⟩
/-! ### isinstance of a caught one -/
def rIs1 (K : PySem.W.Frag) (C a : Addr) (cls : Value) (d : Option Addr) : List V → Hp → VK → Prop := fun xs H Q => ∃ (dd : Addr) (fs : List (Str × V)) (C1 : Addr) (b : Bool), cls = .ref C ∧ d = some dd ∧ H dd = some (.xd fs) ∧ xs = [.ref a, .ref C1] ∧ PySem.W.kitOne K (.ref C) (.ref C1) = some b ∧ Q (.bl b) H
def rIs2 (K : PySem.W.Frag) (C a : Addr) (cls : Value) (d : Option Addr) : List V → Hp → VK → Prop := fun xs H Q => ∃ (dd : Addr) (fs : List (Str × V)) (t C1 C2 : Addr) (b : Bool), cls = .ref C ∧ d = some dd ∧ H dd = some (.xd fs) ∧ xs = [.ref a, .ref t] ∧ H t = some (.tup [.ref C1, .ref C2]) ∧ PySem.W.kitAny K (.ref C) [.ref C1, .ref C2] = some b ∧ Q (.bl b) H
theorem held_at {pins : List (Addr × Obj)} {σ : L2.St} {H : Hp} {s : Shared} {a dd : Addr} {oe : Obj} {pn : List (Addr × Obj)} {fs : List (Str × V)} (I : Inv (X.suite a ((a, oe) :: pn)) pins σ H s) (hz : Zc (.ref C) (some dd) oe) (hf : ∃ vs, oe.data = .fields vs) (hd : H dd = some (.xd fs)) :
    ∃ od, PySem.W.InstAt s.heap a oe C (some od) := by
  obtain ⟨ha, _⟩ := I.pin (a, oe) (List.mem_append_left _ List.mem_cons_self)
  obtain ⟨vs, hv⟩ := hf
  have hx : ObjOk X.prog X.w H s.heap dd (.xd fs) := I.hok dd _ hd
  obtain ⟨mA, hns, _⟩ := hx
  obtain ⟨od, ho, _⟩ := lookIn_ns hns
  exact ⟨od, ha, hz.1, by unfold PySem.W.notCls; rw [hv] <;> rfl, by rw [hz.2]; exact ho⟩
theorem tl_kit {od : Option Obj} {x : Addr} {ox : Obj} (T : TL X.K X.mg C f) : PySem.W.KitX X.K (.ref x) (.ref C) (fun h => PySem.W.InstAt h x ox C od) := by
  refine PySem.W.kitx_exc ?_ T.f_get T.f_at T.sub T.f_cls T.s_get T.tk T.mro
  obtain ⟨cd, hc, _⟩ := PySem.W.any_some T.dct
  rw [hc]
  rfl
theorem call_is1 {a : Addr} {oe : Obj} {cls : Value} {d : Option Addr} {pn : List (Addr × Obj)} (T : TL X.K X.mg C f) (hz : Zc cls d oe) (hf : ∃ vs, oe.data = .fields vs) : CallR (X.suite a ((a, oe) :: pn)) (.builtin "isinstance") (rIs1 X.K C a cls d) := by
  intro pins s σ H xs us Q I r ⟨dd, fs, C1, b, e1, e2, hd, e3, hk, q⟩
  subst e1 e2 e3
  obtain ⟨u, u2, rfl, r1, r2⟩ := vals2 r
  cases r1
  cases r2
  obtain ⟨od, J⟩ := held_at I hz hf hd
  exact PySem.W.kia_one (tl_kit T) I.kIn J hk (fun z => nomatch z) fun tk => ⟨.bl b, H, I.kept (t' := tk) fun _ _ z => z, rfl, q⟩
theorem call_is2 {a : Addr} {oe : Obj} {cls : Value} {d : Option Addr} {pn : List (Addr × Obj)} (T : TL X.K X.mg C f) (hz : Zc cls d oe) (hf : ∃ vs, oe.data = .fields vs) : CallR (X.suite a ((a, oe) :: pn)) (.builtin "isinstance") (rIs2 X.K C a cls d) := by
  intro pins s σ H xs us Q I r ⟨dd, fs, t, C1, C2, b, e1, e2, hd, e3, ht, hk, q⟩
  subst e1 e2 e3
  obtain ⟨u, u2, rfl, r1, r2⟩ := vals2 r
  cases r1
  cases r2
  obtain ⟨od, J⟩ := held_at I hz hf hd
  obtain ⟨its, rv, ⟨⟨cl, dc, dt, sl⟩, ho, hc, n, hdt⟩, _⟩ := I.tuple (SqT.of ht)
  obtain ⟨v1, v2, rfl, s1, s2⟩ := vals2 rv
  cases s1
  cases s2
  simp only at hc hdt
  subst hc hdt
  exact PySem.W.kia_tup (tl_kit T) I.kIn J ho hk (fun z => nomatch z) fun tk => ⟨.bl b, H, I.kept (t' := tk) fun _ _ z => z, rfl, q⟩
/-! ### the try of the law's own -/
/-- exceptions of a try's body, whatever the slots -/
def EW (n : Nat) (W : WX) : XK := fun cls d H => ∀ σ : L2.St, σ.length = n → W cls d σ H
theorem passW {W : WX} (tk : Takes X W) : Passes (L2.CX X.prog X.w) X (EW X.N.length W) := fun pins σ H s e s' I c => tk e s' (XE.of_call I (fun cls d H' h => h σ I.len) c)
def gTry (G : Rho → M Out) (ρ : Rho) : M Out := fun μ => match G ρ μ with
  | some (.ok (.rt s) μ') => some (.ok (.rt s) μ')
  | some (.ex ⟨c, some (g, s)⟩ μ') => if c = "TooLarge" ∧ g = "bound" then match mkl false [.dat (.str "large"), s] μ' with
    | some (.ok v μ2) => some (.ok (.rt v) μ2)
    | _ => none else none
  | _ => none
/-- the classes that the clause names -/
structure ErrZ (K : PySem.W.Frag) (mg : Str → Option Value) (C f CF C1 C2 : Addr) : Prop where
  tl : TL K mg C f
  gF : mg "FallError" = some (.ref CF)
  g1 : mg "BadLength" = some (.ref C1)
  g2 : mg "BadTree" = some (.ref C2)
  ex : PySem.W.exmOne K (.ref C) (.ref CF) = some true
  k0 : PySem.W.kitOne K (.ref C) (.ref C) = some true
  k1 : PySem.W.kitAny K (.ref C) [.ref C1, .ref C2] = some false
def tsE (K : PySem.W.Frag) (C C1 C2 : Addr) (i : Nat) (a : Addr) (cls : Value) (d : Option Addr) : TS :=
  tIfS (tAnd (tB (tCB (rIs1 K C a cls d) (tCons (tVar i) (tCons (tC (.ref C)) tNil)))) (tNot (tB (tCB (rIs2 K C a cls d) (tCons (tVar i) (tCons (tTup (tCons (tC (.ref C1)) (tCons (tC (.ref C2)) tNil))) tNil))))))
    (tRet (tLst (tCons (tC (.str "large")) (tCons (tXf a cls d C "bound" (tVar i)) tNil)))) tNext
theorem s_try {CF C1 C2 : Addr} {body : List Stmt} {G : Rho → M Out} (i : Nat) {np p1 p2 p3 p4 p5 p6 p7 p8 p9 p10 p11 p12 p13 p14 p15 p16 p17 p18 : Pos} {pos' : Pos} {kk jj : Nat} (Z : ErrZ X.K X.mg C f CF C1 C2) (hs : X.stack = X.env :: X.outer) (hf : X.env.frame = some X.env.locals) (hN : X.N.Nodup) (hi : X.N[i]? = some "e") (hln : X.env.kindOf "e" = some .local)
    (hv : Vis X.env.scope "e") (gF : Gl X "FallError") (gT : Gl X "TooLarge") (g1 : Gl X "BadLength") (g2 : Gl X "BadTree") (gI : Gl X "isinstance") (mI : X.mg "isinstance" = none)
    (hb : ∀ (W : WX) (pn : List (Addr × Obj)) (xe : Value → Shared → Prop), Takes (X.tr pn xe) W → PSSX (X.tr pn xe) (EW X.N.length W) body G) :
    PSX X E (.Try body [.ExceptHandler (some (.Name "FallError" np)) (some "e") [.If (.BoolOp .And [.Call (.Name "isinstance" p1) [.Name "e" p2, .Name "TooLarge" p3] [] p4, .UnaryOp .Not (.Call (.Name "isinstance" p5) [.Name "e" p6, .Tuple [.Name "BadLength" p7, .Name "BadTree" p8] kk p9] [] p10) p11] p12) [.Return (some (.List [.Constant (.str "large") jj p13, .Attribute (.Name "e" p14) "bound" p15] p16)) p17] [] p18] pos'] [] [] pos) (gTry G) := by
  refine ps_weak (ps_try_as (i := i) (tb := fun W => tG X.K (EW X.N.length W) G) (ts := tsE X.K C C1 C2 i) (Wout := fun _ _ _ _ => False) hs hf hN hi hln ⟨gF, by decide, .inl Z.gF⟩ takes0 (fun W pn xe tk _ => hb W pn xe tk) (fun a oe cls d pn hz hfl => ?_)) ?_
  · have xf : XfC X.K C := ⟨Z.tl.f_get, Z.tl.f_at, Z.tl.sub, Z.tl.dct⟩
    have nm : PE (X.suite a ((a, oe) :: pn)) (.Name "e" p2) (tVar i) := pe_var hi hv
    have nm2 : PE (X.suite a ((a, oe) :: pn)) (.Name "e" p6) (tVar i) := pe_var hi hv
    have nm3 : PE (X.suite a ((a, oe) :: pn)) (.Name "e" p14) (tVar i) := pe_var hi hv
    have c0 : PE (X.suite a ((a, oe) :: pn)) (.Name "TooLarge" p3) (tC (.ref C)) := pe_glob gT Z.tl.gC rfl
    have c1 : PE (X.suite a ((a, oe) :: pn)) (.Name "BadLength" p7) (tC (.ref C1)) := pe_glob g1 Z.g1 rfl
    have c2 : PE (X.suite a ((a, oe) :: pn)) (.Name "BadTree" p8) (tC (.ref C2)) := pe_glob g2 Z.g2 rfl
    have i1 : PE (X.suite a ((a, oe) :: pn)) (.Call (.Name "isinstance" p1) [.Name "e" p2, .Name "TooLarge" p3] [] p4) _ := pe_callB (call_is1 Z.tl hz hfl) gI mI PyProof.Rows.boot_isinstance (pa_cons nm (pa_cons c0 pa_nil))
    have i2 : PE (X.suite a ((a, oe) :: pn)) (.Call (.Name "isinstance" p5) [.Name "e" p6, .Tuple [.Name "BadLength" p7, .Name "BadTree" p8] kk p9] [] p10) _ := pe_callB (call_is2 Z.tl hz hfl) gI mI PyProof.Rows.boot_isinstance (pa_cons nm2 (pa_cons (pe_tup (pa_cons c1 (pa_cons c2 pa_nil))) pa_nil))
    exact pss_one (ps_if (pw_and (pt_val i1) (pw_and1 (pt_not (pt_val i2)))).pt (pss_one (ps_ret (pe_lst (pa_cons pe_str (pa_cons (pe_xf xf Z.tl.f_fld hz hfl nm3) pa_nil))))) pss_nil)
  · intro D σ H ⟨W, ρ, μ, r, h, e, q⟩
    unfold gTry at e
    cases eg : G ρ μ with
    | none =>
      rw [eg] at e
      cases e
    | some x =>
      rw [eg] at e
      refine ⟨W, ρ, μ, x, h, eg, ?_⟩
      cases x with
      | ok o μ' =>
        cases o with
        | rt s =>
          cases e
          exact q
        | _ => cases e
      | ex c μ' =>
        obtain ⟨c, fl⟩ := c
        cases fl with
        | none => cases e
        | some gs =>
          obtain ⟨g, s⟩ := gs
          dsimp only at e
          split at e
          · rename_i cg
            obtain ⟨rfl, rfl⟩ := cg
            split at e
            · rename_i v μ2 em
              cases e
              intro W1 H1 cls d g1 R1 ⟨⟨C', hC', ec⟩, dd, v1, ed, hd, rv⟩ σ' hl
              rw [Z.tl.nC] at hC'
              cases hC'
              subst ec ed
              refine ⟨true, Z.ex, fun _ a ha => ?_, fun z => nomatch z⟩
              have si : (σ'.set i (some (V.ref a)))[i]? = some (some (.ref a)) := List.getElem?_set_self (by rw [hl]; exact (List.getElem?_eq_some_iff.mp hi).1)
              refine ⟨.ref a, si, dd, _, C, true, rfl, rfl, hd, rfl, Z.k0, true, rfl, ?_⟩
              refine ⟨.ref a, si, (by show 2 ≤ sizeLine; decide), fun t ht => ?_⟩
              have hd2 : upd H1 t (.tup [.ref C1, .ref C2]) dd = some (.xd [("bound", v1)]) := by
                rw [upd_ne (ne_of_none hd ht)]
                exact hd
              refine ⟨dd, _, t, C1, C2, false, rfl, rfl, hd2, rfl, upd_same, Z.k1, false, rfl, ?_⟩
              refine ⟨.ref a, si, rfl, rfl, dd, _, v1, rfl, hd2, rfl, (by show 2 ≤ sizeLine; decide), fun p hp => ?_⟩
              have R2 : Rel X.K W1 (upd H1 t (.tup [.ref C1, .ref C2])) μ' := R1.lay ht
              have g2 : Grow W H μ W1 (upd H1 t (.tup [.ref C1, .ref C2])) μ' := g1.trans ((Grow.refl _ _ _).out ht fun b hb => upd_ne hb)
              refine mkl_ok (E := E) R2 hp (.cons (show SvR X.K W1 μ'.length (V.str "large") (.dat (.str "large")) from Dq.str _) (.cons rv .nil)) em fun W3 H3 g3 R3 u ru => ?_
              exact q W3 H3 (g2.trans g3) R3 u ru
            · cases e
          · cases e
end
/-! ### a call with keywords -/
structure KB (K : PySem.W.Frag) (fd : FuncData) (ps : List Str) (n : Nat) (ks : List Str) : Prop where
  to : ∀ (s : Shared) (us ws : List Value), K.In s.heap → us.length = n → ws.length = ks.length → BindsTo s fd ⟨us, ks.zip ws⟩ (ps.zip (us ++ ws))
abbrev PKX (X : Cx) (E : XK) (kws : List Keyword) (F : Rho → M (List Sv)) : Prop := PK X kws (tAr X.K E F)
theorem pk_weak {X : Cx} {e : List Keyword} {t t' : TA} (h : PK X e t) (w : ∀ σ H Q, t' σ H Q → t σ H Q) : PK X e t' := ⟨fun pos pins s σ H Q I q => h.run pos pins s σ H Q I (w _ _ _ q)⟩
section
variable {X : Cx} {E : XK} {CX : CXT} {k j n : Nat} {f : Addr} {fd : FuncData} {ps ks : List Str} {x : Str} {p pos kpos : Pos} {a e : Expr} {es : List Expr} {kws : List Keyword} {nm : Option Str} {Fm : List Sv → M Sv} {Fa : Rho → M Sv} {Fs Fk : Rho → M (List Sv)}
theorem k_nil : PKX X E [] argN := pk_weak pk_nil fun σ H Q ⟨W, ρ, μ, r, h, e, q⟩ => by
  cases e
  exact q _ _ (Grow.refl _ _ _) h.rel _ .nil
theorem k_cons (ha : PX X E a Fa) (hr : PKX X E kws Fs) : PKX X E (⟨nm, a, kpos⟩ :: kws) (argC Fa Fs) := pk_weak (pk_cons ha hr) fun σ H Q ⟨W, ρ, μ, r, h, e, q⟩ => by
  refine tX_bind h e q fun v a W1 H1 μ1 g1 h1 ra e1 q1 => tAr_bind h1 e1 q1 fun vs ss W2 H2 μ2 g2 h2 rs e2 q2 => ?_
  cases e2
  exact q2 _ _ (Grow.refl _ _ _) h2.rel _ (.cons (ra.grow g2) rs)
def callK (Fm : List Sv → M Sv) (n m : Nat) (Fs Fk : Rho → M (List Sv)) (ρ : Rho) : M Sv := (Fs ρ).bind fun ss => (Fk ρ).bind fun zs => if (decide (ss.length = n) && decide (zs.length = m)) = true then Fm (ss ++ zs) else M.fail
theorem x_callK {l m : Nat} (F : Gk X.prog X.w X.K X.mg X.base CX j f fd ps (spM X.K l Fm)) (hgd : X.A.guards = some []) (hr : Room k X.A) (hm : X.mg x = some (.ref f)) (hk : PySem.W.keepIn X.K (.ref f) = true) (hb : KB X.K fd ps n ks) (hx : Passes CX X E) (ha : PAX X E (e :: es) Fs) (hkw : PKX X E kws Fk) (hnl : n + m = l) (hkl : ks.length = m := by rfl)
    (hg : Gl X x := by rfl) (hj : j ≤ k := by decide) (hall : (backToKw pos (keywordEach kws X.env)).all (·.1.isSome) = true := by rfl) (hks : (backToKw pos (keywordEach kws X.env)).filterMap (·.1) = ks := by rfl) (hdb : (x == ("__debug__" : Str)) = false := by decide)
    (he : starEach (e :: es) X.env = (false, eval e X.env) :: starEach es X.env := by rfl) (hpl : ((backTo pos (starEach (e :: es) X.env)).any (·.1) || (backToKw pos (keywordEach kws X.env)).any (·.1.isNone)) = false := by rfl) :
    PX X E (.Call (.Name x p) (e :: es) kws pos) (callK Fm n m Fs Fk) := by
  subst hkl
  constructor
  intro pins s σ H Q I ⟨W, ρ, μ, r, h, e0, q⟩
  have want : tAr X.K E Fs σ H fun vs H1 => tAr X.K E Fk σ H1 fun zs H2 => vs.length = n ∧ zs.length = ks.length ∧ spM X.K l Fm (vs ++ zs) H2 Q E := tAr_bind h e0 q fun vs ss W1 H1 μ1 g1 h1 rs e1 q1 => tAr_bind h1 e1 q1 fun zs ts W2 H2 μ2 g2 h2 rt e2 q2 => by
    obtain ⟨c, e2⟩ := iff_ok e2
    obtain ⟨c1, c2⟩ := Bool.and_eq_true_iff.mp c
    have l1 := rs.len.trans (of_decide_eq_true c1)
    have l2 := rt.len.trans (of_decide_eq_true c2)
    exact ⟨l1, l2, by rw [List.length_append, l1, l2, hnl], W2, μ2, _, r, h2.rel, (rs.grow g2).append rt, e2, q2⟩
  refine wpAny_Call_Name_kw (ld_glob I hg hm (PySem.W.callWith_KW (h₀ := X.base) I.ok.mod.kin hk hall (thn (ha.run pos pins s σ H _ I want) fun us s1 ⟨vs, H1, I1, r1, q1⟩ => ?_) hpl he) hdb)
  refine thn (hkw.run pos pins s1 σ H1 _ I1 q1) fun ws s2 ⟨zs, H2, I2, rz, l1, l2, sp⟩ => ⟨I2.kIn, ?_⟩
  rw [hks]
  have rr := Vals.append r1 rz
  have lu : us.length = n := (Vals.length r1).symm.trans l1
  have lw : ws.length = ks.length := (Vals.length rz).symm.trans l2
  have gr := (F.up hj).grun X.A X.stack s2 H2 ⟨us, ks.zip ws⟩ (us ++ ws) (vs ++ zs) Q E hgd hr (Inv.env0 I2) (hb.to s2 us ws I2.kIn lu lw) rr sp
  refine wpAny_call (codeAny_mono gr fun res s3 hc => ?_)
  match res, hc with
  | .error ex, hc => exact hx pins σ H2 s2 ex s3 I2 hc
  | .ok (.ret u), hc => exact Inv.after I2 hc
/-- .. a default fills up -/
def callD (Fm : List Sv → M Sv) (n : Nat) (dd : List PyData) (Fs : Rho → M (List Sv)) (ρ : Rho) : M Sv := (Fs ρ).bind fun ss => if decide (ss.length + dd.length = n) = true then Fm (ss ++ dd.map Sv.dat) else M.fail
theorem x_callD {l : Nat} {i : Int} (F : Gk X.prog X.w X.K X.mg X.base CX j f fd ps (spM X.K l Fm)) (hgd : X.A.guards = some []) (hr : Room k X.A) (hm : X.mg x = some (.ref f)) (hk : PySem.W.keepIn X.K (.ref f) = true) (hb : ∃ ds, Vals [V.int i] ds ∧ Binds X.K fd ps ds) (hx : Passes CX X E) (ha : PAX X E (e :: es) Fs) (hg : Gl X x := by rfl) (hj : j ≤ k := by decide)
    (hdb : (x == ("__debug__" : Str)) = false := by decide) (he : starEach (e :: es) X.env = (false, eval e X.env) :: starEach es X.env := by rfl) (hpl : (backTo pos (starEach es X.env)).any (·.1) = false := by rfl) : PX X E (.Call (.Name x p) (e :: es) [] pos) (callD Fm l [.int i] Fs) := by
  obtain ⟨ds, hd, hb⟩ := hb
  exact x_call (p := p) (pos := pos) (dvs := [.int i]) (dd := [.int i]) F hgd (hr.mono hj) hm hk hb hd (fun _ => .cons (.int i) .nil) hx ha hg hdb he hpl
end
end Pf

namespace Pf
open PySem PySem.Spec PyProof.Rows L2
/-! running bodies, what is shown: shared by the laws -/
/-! ### a tuple's repetition -/
def pMulT (a b : Sv) : M Sv := match a, b with
  | .dat (.tuple xs), .dat (.int k) => if (decide (0 < xs.length) && decide (2 ≤ k) && decide (k ≤ 1000) && decide (xs.length ≤ 1000)) = true then M.ret (.dat (.tuple (List.replicate k.toNat xs).flatten)) else M.fail
  | _, _ => M.fail
theorem flat_dqs {K : PySem.W.Frag} {H : Hp} {vs : List V} {xs : List PyData} (h : Dqs K H vs xs) : ∀ k : Nat, Dqs K H (List.replicate k vs).flatten (List.replicate k xs).flatten
  | 0 => .nil
  | k + 1 => by
    rw [List.replicate_succ, List.replicate_succ, List.flatten_cons, List.flatten_cons]
    exact h.append (flat_dqs h k)
theorem o_mulT {X : Cx} {E : XK} : OpR X (binaryOp .Mult) (rO2 X.K E pMulT) := opr_weak op_repT fun x y H Q ⟨W, μ, a, b, r, R, ra, rb, e, q⟩ => by
  unfold pMulT at e
  split at e
  · obtain ⟨c, e⟩ := iff_ok e
    obtain ⟨c, c4⟩ := Bool.and_eq_true_iff.mp c
    obtain ⟨c, c3⟩ := Bool.and_eq_true_iff.mp c
    obtain ⟨c1, c2⟩ := Bool.and_eq_true_iff.mp c
    cases ra with
    | tup h1 r1 =>
      have l := r1.len
      refine ⟨_, _, _, rfl, dq_int rb, seqT_mono R.sub h1, fun z => ?_, of_decide_eq_true c2, of_decide_eq_true c3, by rw [l]; exact of_decide_eq_true c4, fun p hp => dq_tup R hp (flat_dqs r1 _) e q⟩
      rw [z] at l
      have := of_decide_eq_true c1
      rw [← l] at this
      exact absurd this (Nat.lt_irrefl 0)
  · cases e
theorem x_gintE {X : Cx} {E : XK} {x : Str} {i : Int} {pos : Pos} (hg : Gl X x) (h : ∃ t, X.mg x = some (.int i t)) (hd : (x == ("__debug__" : Str)) = false := by decide) : PX X E (.Name x pos) (con (.int i)) := by
  obtain ⟨t, e⟩ := h
  exact x_gint hg e ⟨t, rfl⟩ hd
/-! ### more running -/
theorem andV_t {Fa Fb : Rho → M Sv} {ρ : Rho} {μ μ1 : Mu} (h : Fa ρ μ = some (.ok (.dat (.bool true)) μ1)) : andV Fa Fb ρ μ = Fb ρ μ1 := by
  unfold andV
  rw [bind_ok h]
  rfl
theorem andV_f {Fa Fb : Rho → M Sv} {ρ : Rho} {μ μ1 : Mu} (h : Fa ρ μ = some (.ok (.dat (.bool false)) μ1)) : andV Fa Fb ρ μ = some (.ok (.dat (.bool false)) μ1) := by
  unfold andV
  rw [bind_ok h]
  rfl
theorem or_t {F G : Rho → M Bool} {ρ : Rho} {μ μ1 : Mu} (h : F ρ μ = some (.ok true μ1)) : orT F G ρ μ = some (.ok true μ1) := by
  unfold orT
  rw [bind_ok h]
  rfl
theorem args_c {F : Rho → M Sv} {Fs : Rho → M (List Sv)} {ρ : Rho} {μ μ1 μ2 : Mu} {a : Sv} {as : List Sv} (h : F ρ μ = some (.ok a μ1)) (h2 : Fs ρ μ1 = some (.ok as μ2)) : argC F Fs ρ μ = some (.ok (a :: as) μ2) := by
  unfold argC
  rw [bind_ok h, bind_ok h2]
  rfl
theorem args_n {ρ : Rho} {μ : Mu} : argN ρ μ = some (.ok [] μ) := rfl
theorem lst_at {Fs : Rho → M (List Sv)} {ρ : Rho} {μ μ1 : Mu} {ss : List Sv} (ds : List PyData) (h : Fs ρ μ = some (.ok ss μ1)) (e : ss = ds.map Sv.dat) (hl : ds.length ≤ 1000000) : lstV false Fs ρ μ = some (.ok (.dat (.list ds)) μ1) := by
  subst e
  unfold lstV
  rw [bind_ok h, List.length_map, iteM, if_pos (show szOk ds.length = true from decide_eq_true hl)]
  exact mkl_dat ds μ1
theorem tup_at {Fs : Rho → M (List Sv)} {ρ : Rho} {μ μ1 : Mu} {ss : List Sv} (ds : List PyData) (h : Fs ρ μ = some (.ok ss μ1)) (e : ss = ds.map Sv.dat) (hl : ds.length ≤ 1000000) : tupV Fs ρ μ = some (.ok (.dat (.tuple ds)) μ1) := by
  subst e
  unfold tupV
  rw [bind_ok h, List.length_map, iteM, if_pos (show szOk ds.length = true from decide_eq_true hl)]
  unfold mkt
  rw [dats_map]
  rfl
theorem tcat_at {xs ys : List PyData} (h : xs.length + ys.length ≤ 1000000) (μ : Mu) : pAdd false (.dat (.tuple xs)) (.dat (.tuple ys)) μ = some (.ok (.dat (.tuple (xs ++ ys))) μ) := by
  show (if szOk (xs.length + ys.length) = true then M.ret (Sv.dat (.tuple (xs ++ ys))) else M.fail) μ = _
  rw [if_pos (show szOk (xs.length + ys.length) = true from decide_eq_true h)]
  rfl
theorem sl_lo {Fa F : Rho → M Sv} {ρ : Rho} {μ : Mu} {ds : List PyData} {i : Int} (h : Fa ρ μ = some (.ok (.dat (.tuple ds)) μ)) (e : F ρ μ = some (.ok (svI i) μ)) : slV false Fa (aPart F) noPart ρ μ = some (.ok (.dat (.tuple (cutL ds (some i) none))) μ) := by
  simp only [slV, aPart, noPart, asI, M.bind, ret_at, h, e, pSl]
theorem sl_hi {Fa F : Rho → M Sv} {ρ : Rho} {μ : Mu} {ds : List PyData} {i : Int} (h : Fa ρ μ = some (.ok (.dat (.tuple ds)) μ)) (e : F ρ μ = some (.ok (svI i) μ)) : slV false Fa noPart (aPart F) ρ μ = some (.ok (.dat (.tuple (cutL ds none (some i)))) μ) := by
  simp only [slV, aPart, noPart, asI, M.bind, ret_at, h, e, pSl]
theorem mem_cut {α : Type} {xs : List α} {lo hi : Option Int} {x : α} (h : x ∈ cutL xs lo hi) : x ∈ xs := List.mem_of_mem_drop (List.mem_of_mem_take h)
theorem len_cut {α : Type} {xs : List α} {lo hi : Option Int} : (cutL xs lo hi).length ≤ xs.length := by
  unfold cutL
  rw [List.length_take, List.length_drop]
  omega
theorem len_hi {α : Type} {xs : List α} {k : Nat} : (cutL xs none (some (k : Int))).length ≤ k := by
  unfold cutL
  rw [HT.sIx_none, HT.sIx_nat, List.length_take]
  omega
theorem atI_mem {α : Type} {xs : List α} {i : Int} (h0 : 0 ≤ i) (h1 : i < xs.length) : ∃ x, x ∈ xs ∧ atI xs i = some x := by
  obtain ⟨x, a, b⟩ := atI_lt h0 h1
  exact ⟨x, List.mem_of_getElem? a, b⟩
theorem par3_at {i j k : Nat} {Fs : Rho → M (List Sv)} {ρ : Rho} {μ μ1 : Mu} {a b c : Sv} (h : Fs ρ μ = some (.ok [a, b, c] μ1)) : gPar3 i j k Fs ρ μ = some (.ok (.nx (((ρ.set i (some a)).set j (some b)).set k (some c))) μ1) := by
  unfold gPar3
  rw [bind_ok h]
  rfl
/-- a comprehension whose element writes -/
theorem lcL_go {T : Sv → Rho → M Rho} {Fe : Rho → M Sv} {ρ : Rho} (N : Nat) (I : Nat → Mu → Prop) (P : PyData → Prop) : ∀ (ds : List PyData) (k : Nat) (μ : Mu), k + ds.length ≤ N → (∀ d ∈ ds, ∀ i μ, i < N → I i μ → ∃ ρ1 x μ', T (.dat d) ρ μ = some (.ok ρ1 μ) ∧ Fe ρ1 μ = some (.ok (.dat x) μ') ∧ P x ∧ I (i + 1) μ') → I k μ →
    ∃ (xs : List PyData) (μ' : Mu), lcL T yes Fe ds ρ μ = some (.ok (xs.map Sv.dat) μ') ∧ (∀ x ∈ xs, P x) ∧ xs.length = ds.length ∧ I (k + ds.length) μ'
  | [], k, μ, _, _, h => ⟨[], μ, rfl, fun _ z => (nomatch z), rfl, h⟩
  | d :: ds, k, μ, hk, st, h => by
    rw [List.length_cons] at hk
    obtain ⟨ρ1, x, μ1, e1, e2, p, h1⟩ := st d List.mem_cons_self k μ (by omega) h
    obtain ⟨xs, μ2, e3, p2, l, h2⟩ := lcL_go N I P ds (k + 1) μ1 (by omega) (fun d hd => st d (List.mem_cons_of_mem _ hd)) h1
    refine ⟨x :: xs, μ2, ?_, fun y hy => ?_, by rw [List.length_cons, List.length_cons, l], ?_⟩
    · simp only [lcL, M.bind, noEx, e1, yes, M.ret, e2, if_true, e3, List.map_cons]
    · rcases List.mem_cons.mp hy with z | z
      · rw [z]
        exact p
      · exact p2 y z
    · rw [List.length_cons]
      have : k + (ds.length + 1) = k + 1 + ds.length := by omega
      rw [this]
      exact h2
theorem lcV_go {T : Sv → Rho → M Rho} {Fe : Rho → M Sv} {Fi : Rho → M (List PyData)} {vs : List Nat} {ρ : Rho} {μ : Mu} {ds : List PyData} (I : Nat → Mu → Prop) (P : PyData → Prop) (e : Fi ρ μ = some (.ok ds μ)) (hl : ds.length ≤ 1000000)
    (st : ∀ d ∈ ds, ∀ i μ, i < ds.length → I i μ → ∃ ρ1 x μ', T (.dat d) (wipeR ρ vs) μ = some (.ok ρ1 μ) ∧ Fe ρ1 μ = some (.ok (.dat x) μ') ∧ P x ∧ I (i + 1) μ') (h : I 0 μ) :
    ∃ (xs : List PyData) (μ' : Mu), lcV false vs Fi T yes Fe ρ μ = some (.ok (.dat (.list xs)) μ') ∧ (∀ x ∈ xs, P x) ∧ xs.length = ds.length ∧ I ds.length μ' := by
  obtain ⟨xs, μ', e2, p, l, h2⟩ := lcL_go ds.length I P ds 0 μ (by omega) st h
  rw [Nat.zero_add] at h2
  refine ⟨xs, μ', ?_, p, l, h2⟩
  unfold lcV
  rw [bind_ok e, iteM, if_pos (show szOk ds.length = true from decide_eq_true hl), bind_ok e2]
  exact mkl_dat xs μ'
theorem btup_at (xs : List PyData) (μ : Mu) : bTuple [.dat (.list xs)] μ = some (.ok (.dat (.tuple xs)) μ) := by
  show M.bind (lsOf (.dat (.list xs))) mkt μ = _
  rw [bind_ok (show lsOf (.dat (.list xs)) μ = some (.ok (xs.map Sv.dat) μ) from rfl)]
  unfold mkt
  rw [dats_map]
  rfl
/-! ### values by two kinds: no dict within, no list within -/
def cls (c : Bool) (d : PyData) : Bool := match c with
  | true => bare d
  | false => !d.hasDict
structure Va (c : Bool) (d : PyData) (n k : Nat) : Prop where
  lf : lfs d = true
  cl : cls c d = true
  dp : d.depth ≤ k
  sz : wt d ≤ n
theorem Va.up {c : Bool} {d : PyData} {n k n' k' : Nat} (h : Va c d n k) (hn : n ≤ n') (hk : k ≤ k') : Va c d n' k' := ⟨h.lf, h.cl, Nat.le_trans h.dp hk, Nat.le_trans h.sz hn⟩
theorem Va.nice {c : Bool} {d : PyData} {n k : Nat} (h : Va c d n k) (hk : k ≤ 10) : Nice d n := ⟨h.lf, by
  have z := h.cl
  cases c with
  | true => rw [show bare d = true from z, Bool.or_true]
  | false => rw [show (!d.hasDict) = true from z, Bool.true_or], Nat.le_trans h.dp hk, h.sz⟩
theorem bareAll_of : ∀ {ds : List PyData}, (∀ d ∈ ds, bare d = true) → bare.bareAll ds = true
  | [], _ => by simp only [bare.bareAll]
  | d :: ds, h => by
    simp only [bare.bareAll, h d List.mem_cons_self, bareAll_of (ds := ds) fun d hd => h d (List.mem_cons_of_mem _ hd), Bool.and_self]
theorem Va.tuple {c : Bool} {ds : List PyData} {n k : Nat} (h : ∀ d ∈ ds, Va c d n k) : Va c (.tuple ds) ((n + 2) * ds.length + 3) (k + 1) :=
  ⟨by simp only [lfs]; exact lfss_of fun d hd => (h d hd).lf, by
    cases c with
    | true => simp only [cls, bare]; exact bareAll_of fun d hd => (h d hd).cl
    | false =>
      simp only [cls, PyData.hasDict]
      rw [nodict_of fun d hd => ?_]
      · rfl
      · have z : (!d.hasDict) = true := (h d hd).cl
        simpa using z, by simp only [PyData.depth]; exact Nat.succ_le_succ (depth_of fun d hd => (h d hd).dp),
    by simp only [wt]; exact Nat.add_le_add_right (wts_le fun d hd => (h d hd).sz) 3⟩
theorem Va.list {ds : List PyData} {n k : Nat} (h : ∀ d ∈ ds, Va false d n k) : Va false (.list ds) ((n + 2) * ds.length + 2) (k + 1) :=
  ⟨by simp only [lfs]; exact lfss_of fun d hd => (h d hd).lf, by
      simp only [cls, PyData.hasDict]
      rw [nodict_of fun d hd => ?_]
      · rfl
      · have z : (!d.hasDict) = true := (h d hd).cl
        simpa using z, by simp only [PyData.depth]; exact Nat.succ_le_succ (depth_of fun d hd => (h d hd).dp),
    by simp only [wt]; exact Nat.add_le_add_right (wts_le fun d hd => (h d hd).sz) 2⟩
def vaB (c : Bool) (d : PyData) (n k : Nat) : Bool := lfs d && cls c d && decide (d.depth ≤ k) && decide (wt d ≤ n)
theorem Va.of {c : Bool} {d : PyData} {n k : Nat} (h : vaB c d n k = true) : Va c d n k := by
  obtain ⟨h, h4⟩ := Bool.and_eq_true_iff.mp h
  obtain ⟨h, h3⟩ := Bool.and_eq_true_iff.mp h
  obtain ⟨h1, h2⟩ := Bool.and_eq_true_iff.mp h
  exact ⟨h1, h2, of_decide_eq_true h3, of_decide_eq_true h4⟩
def Some' (d : PyData) (n k : Nat) : Prop := ∃ c, Va c d n k
theorem Va.int {c : Bool} {i : Int} (h : i.natAbs < 10 ^ 42) : Va c (.int i) 44 0 := ⟨by simp only [lfs]; exact decide_eq_true h, by cases c <;> simp [cls, bare, PyData.hasDict], by simp only [PyData.depth]; exact Nat.le_refl _, by simp only [wt]; exact Nat.le_refl _⟩
theorem va_row {c : Bool} {r : Int × Int} (h1 : 0 ≤ r.1 ∧ r.1 ≤ 1000) (h2 : 1 ≤ r.2 ∧ r.2 ≤ 1000000) : Va c (rowD r) 95 1 := by
  refine Va.tuple (ds := [.int r.1, .int r.2]) (n := 44) (k := 0) fun d hd => ?_
  rcases List.mem_cons.mp hd with rfl | hd
  · exact .int (Nat.lt_trans (show r.1.natAbs < 10000000 by omega) (by decide +kernel))
  · rw [List.mem_singleton.mp hd]
    exact .int (Nat.lt_trans (show r.2.natAbs < 10000000 by omega) (by decide +kernel))
theorem va_rows {c : Bool} {rows : List (Int × Int)} (ok : TreeOk rows) (hl : rows.length ≤ 11) : ∀ d ∈ rows.map rowD, Va c d 95 1 := fun d hd => by
  obtain ⟨r, hr, rfl⟩ := List.mem_map.mp hd
  have b := ok.at_ hr
  exact va_row (by omega) (by omega)
theorem callF_at {Fm : List Sv → M Sv} {n : Nat} {Fs : Rho → M (List Sv)} {ρ : Rho} {μ μ1 : Mu} {ss : List Sv} (h : Fs ρ μ = some (.ok ss μ1)) (l : ss.length = n) : callF Fm n Fs ρ μ = Fm ss μ1 := by
  unfold callF
  rw [bind_ok h, iteM, if_pos (decide_eq_true l)]
theorem callV_at {op : List Sv → M Sv} {Fs : Rho → M (List Sv)} {ρ : Rho} {μ μ1 : Mu} {ss : List Sv} (h : Fs ρ μ = some (.ok ss μ1)) : callV op Fs ρ μ = op ss μ1 := by
  unfold callV
  rw [bind_ok h]
theorem cutL_map {α β : Type} (g : α → β) (xs : List α) (lo hi : Option Int) : cutL (xs.map g) lo hi = (cutL xs lo hi).map g := by
  unfold cutL
  rw [List.length_map, List.map_take, List.map_drop]
theorem most_of (x y z : Int) (hx : 1 ≤ x ∧ x ≤ 12) (hy : 1 ≤ y ∧ y ≤ 12) (hz : 1 ≤ z ∧ z ≤ 12) (i : Nat) : ∃ most : Int, 1 ≤ most ∧ most ≤ 12 ∧ atI [PyData.int x, .int y, .int z] ((i : Int) % 3) = some (.int most) := by
  have a0 : 0 ≤ (i : Int) % 3 := Int.emod_nonneg _ (by decide)
  have a1 : (i : Int) % 3 < 3 := Int.emod_lt_of_pos _ (by decide)
  rcases (show (i : Int) % 3 = 0 ∨ (i : Int) % 3 = 1 ∨ (i : Int) % 3 = 2 by omega) with q | q | q
  · rw [q]
    exact ⟨x, hx.1, hx.2, atI_0 _ _⟩
  · rw [q]
    exact ⟨y, hy.1, hy.2, atI_1 _ _ _⟩
  · rw [q]
    exact ⟨z, hz.1, hz.2, atI_2 _ _ _ _⟩
/-! ### results that may be the error -/
def tooL : Exc := ⟨"TooLarge", some ("bound", svI 12)⟩
def resE (o : Option PyData) (μ : Mu) : Res Sv := match o with
  | some d => .ok (.dat d) μ
  | none => .ex tooL μ
def outE (o : Option PyData) (μ : Mu) : Res Out := match o with
  | some d => .ok (.rt (.dat d)) μ
  | none => .ex tooL μ
section
variable {α : Type} {enc : α → List Sv} {ok : α → Prop} {out : α → Option PyData}
open Classical in
noncomputable def pureE (enc : α → List Sv) (ok : α → Prop) (out : α → Option PyData) (ss : List Sv) : M Sv := fun μ => if h : ∃ x, ss = enc x ∧ ok x then some (resE (out h.choose) μ) else none
theorem pureE_eq (inj : ∀ x y, enc x = enc y → x = y) {x : α} (h : ok x) (μ : Mu) : pureE enc ok out (enc x) μ = some (resE (out x) μ) := by
  have ex : ∃ y, enc x = enc y ∧ ok y := ⟨x, rfl, h⟩
  have e : ex.choose = x := (inj _ _ ex.choose_spec.1).symm
  unfold pureE
  rw [dif_pos ex, e]
theorem same_pureE {N n : Nat} {G : Rho → M Out} (h : ∀ x μ, ok x → ∃ g, G (ini N (enc x)) μ = some (outE (out x) (μ ++ g))) (ss : List Sv) (μ : Mu) (r : Res Sv) (_ : ss.length = n) (wf : Wf μ) (e : pureE enc ok out ss μ = some r) :
    ∃ r', G (ini N ss) μ = some r' ∧ Agree μ.length r r' := by
  unfold pureE at e
  by_cases q : ∃ x, ss = enc x ∧ ok x
  · rw [dif_pos q] at e
    cases e
    obtain ⟨e1, e2⟩ := q.choose_spec
    obtain ⟨g, eg⟩ := h _ μ e2
    rw [← e1] at eg
    refine ⟨_, eg, ?_⟩
    cases out q.choose with
    | some d => exact ⟨rfl, ⟨g, rfl⟩, wf, Nat.le_refl _, trivial⟩
    | none => exact ⟨rfl, ⟨g, rfl⟩, wf, Nat.le_refl _, fun f s z => by
        cases z
        trivial⟩
  · rw [dif_neg q] at e
    cases e
end
theorem ret_E {Fa : Rho → M Sv} {ρ : Rho} {μ : Mu} {o : Option PyData} (h : Fa ρ μ = some (resE o μ)) : gRet Fa ρ μ = some (outE o μ) := by
  cases o with
  | some d => exact ret_gives h
  | none =>
    unfold gRet
    rw [bind_ex h]
    rfl
theorem seq_E {G G' : Rho → M Out} {ρ : Rho} {μ : Mu} {o : Option PyData} (h : G ρ μ = some (outE o μ)) : gSeq G G' ρ μ = some (outE o μ) := by
  cases o with
  | some d => exact seq_rt h
  | none =>
    unfold gSeq
    rw [bind_ex h]
    rfl
def largeD : PyData := .list [.str "large", .int 12]
theorem try_at {G : Rho → M Out} {ρ : Rho} {μ : Mu} {o : Option PyData} (h : G ρ μ = some (outE o μ)) : gTry G ρ μ = some (.ok (.rt (.dat (o.getD largeD))) μ) := by
  unfold gTry
  rw [h]
  cases o with
  | some d => rfl
  | none =>
    show (if ("TooLarge" : Str) = "TooLarge" ∧ ("bound" : Str) = "bound" then _ else none) = _
    rw [if_pos ⟨rfl, rfl⟩]
    rfl
theorem callK_at {Fm : List Sv → M Sv} {n m : Nat} {Fs Fk : Rho → M (List Sv)} {ρ : Rho} {μ : Mu} {ss zs : List Sv} (h : Fs ρ μ = some (.ok ss μ)) (h2 : Fk ρ μ = some (.ok zs μ)) (l1 : ss.length = n) (l2 : zs.length = m) : callK Fm n m Fs Fk ρ μ = Fm (ss ++ zs) μ := by
  unfold callK
  rw [bind_ok h, bind_ok h2, iteM, decide_eq_true l1, decide_eq_true l2, Bool.and_self, if_pos rfl]
theorem callD_at {Fm : List Sv → M Sv} {n : Nat} {dd : List PyData} {Fs : Rho → M (List Sv)} {ρ : Rho} {μ : Mu} {ss : List Sv} (h : Fs ρ μ = some (.ok ss μ)) (l1 : ss.length + dd.length = n) : callD Fm n dd Fs ρ μ = Fm (ss ++ dd.map Sv.dat) μ := by
  unfold callD
  rw [bind_ok h, iteM, if_pos (decide_eq_true l1)]
theorem blenT (rows : List (Int × Int)) (μ : Mu) : bLen [.dat (treeD rows)] μ = some (.ok (svI (rows.length : Nat)) μ) := by
  show some (Res.ok (svI ((rows.map rowD).length : Nat)) μ) = _
  rw [List.length_map]
theorem ifV_t {F : Rho → M Bool} {Fa Fb : Rho → M Sv} {ρ : Rho} {μ μ1 : Mu} (h : F ρ μ = some (.ok true μ1)) : ifV F Fa Fb ρ μ = Fa ρ μ1 := by
  unfold ifV
  rw [bind_ok h]
  rfl
theorem ifV_f {F : Rho → M Bool} {Fa Fb : Rho → M Sv} {ρ : Rho} {μ μ1 : Mu} (h : F ρ μ = some (.ok false μ1)) : ifV F Fa Fb ρ μ = Fb ρ μ1 := by
  unfold ifV
  rw [bind_ok h]
  rfl
end Pf

set_option maxHeartbeats 1000000
namespace Pf
open PySem PySem.Spec PyProof.Rows L2
/-! ### the judging of trees, purely -/
def numB (d : PyData) (lo hi : Int) : Bool := match d with
  | .int i => decide (lo ≤ i) && decide (i ≤ hi)
  | _ => false
def rowB (d : PyData) (k : Int) : Bool := match d with
  | .tuple [a, b] => numB a 0 k && numB b 1 1000000
  | _ => false
def errL : List PyData → Nat → Option Nat
  | [], _ => none
  | d :: r, k => if rowB d k = true then errL r (k + 1) else some k
def errD (d : PyData) : PyData := match d with
  | .tuple ds => if decide ((11 : Int) < ds.length) = true then .tuple [.none, .str "tree"] else match errL ds 0 with
    | none => .none
    | some k => .tuple [.int (k : Nat), .str "row"]
  | _ => .tuple [.none, .str "tree"]
def encN (x : PyData × Int × Int) : List Sv := [.dat x.1, svI x.2.1, svI x.2.2]
def encR (x : PyData × Int) : List Sv := [.dat x.1, svI x.2]
def encD (d : PyData) : List Sv := [.dat d]
def okA {α : Type} (_ : α) : Prop := True
theorem encN_inj : ∀ x y, encN x = encN y → x = y := fun ⟨a, b, c⟩ ⟨a', b', c'⟩ h => by
  have h1 := List.cons.inj h
  have h2 := List.cons.inj h1.2
  have h3 := List.cons.inj h2.2
  have e1 : a = a' := Sv.dat.inj h1.1
  have e2 : b = b' := PyData.int.inj (Sv.dat.inj h2.1)
  have e3 : c = c' := PyData.int.inj (Sv.dat.inj h3.1)
  rw [e1, e2, e3]
theorem encR_inj : ∀ x y, encR x = encR y → x = y := fun ⟨a, b⟩ ⟨a', b'⟩ h => by
  have h1 := List.cons.inj h
  have h2 := List.cons.inj h1.2
  have e1 : a = a' := Sv.dat.inj h1.1
  have e2 : b = b' := PyData.int.inj (Sv.dat.inj h2.1)
  rw [e1, e2]
theorem encD_inj : ∀ x y, encD x = encD y → x = y := fun a b h => Sv.dat.inj (List.cons.inj h).1
def topS (i : Nat) : Stmt := PySem.Challenge.pw_marktopples_k00_trees_judged.main.body.getD i (.Pass ⟨0, 0, 0, 0⟩)
variable {P : Program} {w : World} {K : PySem.W.Frag} {mg : Str → Option Value} {base : Heap}
structure Top (mg : Str → Option Value) : Prop where
  m_abs : mg "abs" = none
  m_bool : mg "bool" = none
  m_enumerate : mg "enumerate" = none
  m_int : mg "int" = none
  m_isinstance : mg "isinstance" = none
  m_len : mg "len" = none
  m_list : mg "list" = none
  m_max : mg "max" = none
  m_range : mg "range" = none
  m_repr : mg "repr" = none
  m_tuple : mg "tuple" = none
  c_MAX_LENGTH : ∃ t, mg "MAX_LENGTH" = some (.int 1000000 t)
  c_MAX_MARKS : ∃ t, mg "MAX_MARKS" = some (.int 12 t)

/-! ### a number -/
noncomputable def F_is_number_from_to : List Sv → M Sv := pureF encN okA fun x => .bool (numB x.1 x.2.1 x.2.2)
noncomputable abbrev F__law_is_number := F_is_number_from_to
def intB (d : PyData) : Bool := match d with
  | .int _ => true
  | _ => false
noncomputable def F_is_number : List Sv → M Sv := pureF encD okA fun d => .bool (intB d)
abbrev s_is_number : Stmt := topS 3
abbrev N_is_number : List Str := ["value"]
theorem sc_is_number : FnScope N_is_number ["value"] (defScope s_is_number) := ⟨rfl, rfl, rfl, by decide +kernel, rfl, by decide +kernel, by decide +kernel⟩
noncomputable def G_is_number : Rho → M Out :=
  (gRet (andV (isiV "int" (slot 0)) (notV (isiV "bool" (slot 0)))))
abbrev s_is_number_from_to : Stmt := topS 4
abbrev N_is_number_from_to : List Str := ["value", "least", "most"]
theorem sc_is_number_from_to : FnScope N_is_number_from_to ["value", "least", "most"] (defScope s_is_number_from_to) := ⟨rfl, rfl, rfl, by decide +kernel, rfl, by decide +kernel, by decide +kernel⟩
noncomputable def G_is_number_from_to : Rho → M Out :=
  (gRet (andV (callF F_is_number 1 (argC (slot 0) argN)) (chain pLe pLe (slot 1) (slot 0) (slot 2))))
abbrev s__law_is_number : Stmt := topS 13
abbrev N__law_is_number : List Str := ["_law_value", "_law_low", "_law_high"]
theorem sc__law_is_number : FnScope N__law_is_number ["_law_value", "_law_low", "_law_high"] (defScope s__law_is_number) := ⟨rfl, rfl, rfl, by decide +kernel, rfl, by decide +kernel, by decide +kernel⟩
noncomputable def G__law_is_number : Rho → M Out :=
  (gRet (andV (isiV "int" (slot 0)) (andV (notV (isiV "bool" (slot 0))) (chain pLe pLe (slot 1) (slot 0) (slot 2)))))
theorem run_int (d : PyData) (μ : Mu) (_ : okA d) : ∃ g, G_is_number (ini 1 (encD d)) μ = some (.ok (.rt (.dat (.bool (intB d)))) (μ ++ g)) := by
  refine ⟨[], ?_⟩
  rw [List.append_nil]
  refine ret_gives ?_
  show andV _ _ [some (.dat d)] μ = _
  cases d with
  | int i =>
    rw [andV_t (show isiV "int" (slot 0) [some (.dat (.int i))] μ = some (.ok (.dat (.bool true)) μ) from rfl)]
    rfl
  | bool b =>
    rw [andV_t (show isiV "int" (slot 0) [some (.dat (.bool b))] μ = some (.ok (.dat (.bool true)) μ) from rfl)]
    rfl
  | none => rw [andV_f (show isiV "int" (slot 0) [some (.dat .none)] μ = some (.ok (.dat (.bool false)) μ) from rfl)]; rfl
  | str s => rw [andV_f (show isiV "int" (slot 0) [some (.dat (.str s))] μ = some (.ok (.dat (.bool false)) μ) from rfl)]; rfl
  | list s => rw [andV_f (show isiV "int" (slot 0) [some (.dat (.list s))] μ = some (.ok (.dat (.bool false)) μ) from rfl)]; rfl
  | tuple s => rw [andV_f (show isiV "int" (slot 0) [some (.dat (.tuple s))] μ = some (.ok (.dat (.bool false)) μ) from rfl)]; rfl
  | dict s => rw [andV_f (show isiV "int" (slot 0) [some (.dat (.dict s))] μ = some (.ok (.dat (.bool false)) μ) from rfl)]; rfl
theorem ok_is_number (T : Top mg) {f : Addr} {fd : FuncData} (F : Fun K "is_number" "is_number" s_is_number f fd) : Gk P w K mg base (L2.CX P w) 1 f fd ["value"] (spM K 1 F_is_number) := by
  refine gk_of (k := 0) F sc_is_number rfl G_is_number (fun cdv A below s H E hg hr => ?_) (same_pure run_int)
  have nd : N_is_number.Nodup := sc_is_number.nd
  have hx : Passes (L2.CX P w) (bx P w K mg base N_is_number "is_number" s_is_number f cdv A below s H E) E := bx_pass
  have ho : PassesOwn (model P w) (bx P w K mg base N_is_number "is_number" s_is_number f cdv A below s H E).A (bx P w K mg base N_is_number "is_number" s_is_number f cdv A below s H E).env (bx P w K mg base N_is_number "is_number" s_is_number f cdv A below s H E).xe := bx_own
  exact (q_one (s_ret (x_and (x_isi rfl T.m_isinstance PyProof.Rows.boot_isinstance rfl T.m_int (by decide +kernel) (x_name 0)) (x_one (x_not (x_isi rfl T.m_isinstance PyProof.Rows.boot_isinstance rfl T.m_bool (by decide +kernel) (x_name 0)))))))
theorem call_int (d : PyData) (μ : Mu) : F_is_number [.dat d] μ = some (.ok (.dat (.bool (intB d))) μ) := pureF_eq (enc := encD) (ok := okA) encD_inj (x := d) trivial μ
theorem run_numP {G : Rho → M Out} (hG : G = gRet (andV (callF F_is_number 1 (argC (slot 0) argN)) (chain pLe pLe (slot 1) (slot 0) (slot 2)))) (x : PyData × Int × Int) (μ : Mu) (_ : okA x) : ∃ g, G (ini 3 (encN x)) μ = some (.ok (.rt (.dat (.bool (numB x.1 x.2.1 x.2.2)))) (μ ++ g)) := by
  subst hG
  obtain ⟨d, lo, hi⟩ := x
  refine ⟨[], ?_⟩
  rw [List.append_nil]
  refine ret_gives ?_
  show andV _ _ [some (.dat d), some (svI lo), some (svI hi)] μ = _
  have c : callF F_is_number 1 (argC (slot 0) argN) [some (.dat d), some (svI lo), some (svI hi)] μ = some (.ok (.dat (.bool (intB d))) μ) := by
    rw [call1_at (show slot 0 _ μ = some (.ok (.dat d) μ) from rfl)]
    exact call_int d μ
  cases d with
  | int i =>
    rw [andV_t c]
    show (if decide (lo ≤ i) = true then _ else _ : M Sv) μ = some (.ok (.dat (.bool (decide (lo ≤ i) && decide (i ≤ hi)))) μ)
    cases decide (lo ≤ i) with
    | false => rfl
    | true => rfl
  | bool b => rw [andV_f c]; rfl
  | none => rw [andV_f c]; rfl
  | str s => rw [andV_f c]; rfl
  | list s => rw [andV_f c]; rfl
  | tuple s => rw [andV_f c]; rfl
  | dict s => rw [andV_f c]; rfl
theorem run_num {G : Rho → M Out} (hG : G = gRet (andV (isiV "int" (slot 0)) (andV (notV (isiV "bool" (slot 0))) (chain pLe pLe (slot 1) (slot 0) (slot 2))))) (x : PyData × Int × Int) (μ : Mu) (_ : okA x) : ∃ g, G (ini 3 (encN x)) μ = some (.ok (.rt (.dat (.bool (numB x.1 x.2.1 x.2.2)))) (μ ++ g)) := by
  subst hG
  obtain ⟨d, lo, hi⟩ := x
  refine ⟨[], ?_⟩
  rw [List.append_nil]
  refine ret_gives ?_
  show andV _ _ [some (.dat d), some (svI lo), some (svI hi)] μ = _
  cases d with
  | int i =>
    rw [andV_t (show isiV "int" (slot 0) [some (.dat (.int i)), some (svI lo), some (svI hi)] μ = some (.ok (.dat (.bool true)) μ) from rfl), andV_t (show notV (isiV "bool" (slot 0)) [some (.dat (.int i)), some (svI lo), some (svI hi)] μ = some (.ok (.dat (.bool true)) μ) from rfl)]
    show (if decide (lo ≤ i) = true then _ else _ : M Sv) μ = some (.ok (.dat (.bool (decide (lo ≤ i) && decide (i ≤ hi)))) μ)
    cases decide (lo ≤ i) with
    | false => rfl
    | true => rfl
  | bool b =>
    rw [andV_t (show isiV "int" (slot 0) [some (.dat (.bool b)), some (svI lo), some (svI hi)] μ = some (.ok (.dat (.bool true)) μ) from rfl), andV_f (show notV (isiV "bool" (slot 0)) [some (.dat (.bool b)), some (svI lo), some (svI hi)] μ = some (.ok (.dat (.bool false)) μ) from rfl)]
    rfl
  | none => rw [andV_f (show isiV "int" (slot 0) [some (.dat .none), some (svI lo), some (svI hi)] μ = some (.ok (.dat (.bool false)) μ) from rfl)]; rfl
  | str s => rw [andV_f (show isiV "int" (slot 0) [some (.dat (.str s)), some (svI lo), some (svI hi)] μ = some (.ok (.dat (.bool false)) μ) from rfl)]; rfl
  | list s => rw [andV_f (show isiV "int" (slot 0) [some (.dat (.list s)), some (svI lo), some (svI hi)] μ = some (.ok (.dat (.bool false)) μ) from rfl)]; rfl
  | tuple s => rw [andV_f (show isiV "int" (slot 0) [some (.dat (.tuple s)), some (svI lo), some (svI hi)] μ = some (.ok (.dat (.bool false)) μ) from rfl)]; rfl
  | dict s => rw [andV_f (show isiV "int" (slot 0) [some (.dat (.dict s)), some (svI lo), some (svI hi)] μ = some (.ok (.dat (.bool false)) μ) from rfl)]; rfl
theorem ok_is_number_from_to (T : Top mg) {f : Addr} {fd : FuncData} (F : Fun K "is_number_from_to" "is_number_from_to" s_is_number_from_to f fd) {f_is_number : Addr} {fd_is_number : FuncData} (Fis_number : Fun K "is_number" "is_number" s_is_number f_is_number fd_is_number) (g_is_number : mg "is_number" = some (.ref f_is_number)) (b_is_number : Binds K fd_is_number ["value"] []) (C_is_number : Gk P w K mg base (L2.CX P w) 1 f_is_number fd_is_number ["value"] (spM K 1 F_is_number)) : Gk P w K mg base (L2.CX P w) 2 f fd ["value", "least", "most"] (spM K 3 F_is_number_from_to) := by
  refine gk_of (k := 1) F sc_is_number_from_to rfl G_is_number_from_to (fun cdv A below s H E hg hr => ?_) (same_pure (run_numP rfl))
  have nd : N_is_number_from_to.Nodup := sc_is_number_from_to.nd
  have hx : Passes (L2.CX P w) (bx P w K mg base N_is_number_from_to "is_number_from_to" s_is_number_from_to f cdv A below s H E) E := bx_pass
  have ho : PassesOwn (model P w) (bx P w K mg base N_is_number_from_to "is_number_from_to" s_is_number_from_to f cdv A below s H E).A (bx P w K mg base N_is_number_from_to "is_number_from_to" s_is_number_from_to f cdv A below s H E).env (bx P w K mg base N_is_number_from_to "is_number_from_to" s_is_number_from_to f cdv A below s H E).xe := bx_own
  exact (q_one (s_ret (x_and (x_call1 C_is_number hg hr g_is_number Fis_number.kp b_is_number hx (a_cons (x_name 0) a_nil)) (x_one (x_chain o_le o_le (x_name 1) (x_name 0) (x_name 2))))))
theorem ok__law_is_number (T : Top mg) {f : Addr} {fd : FuncData} (F : Fun K "_law_is_number" "_law_is_number" s__law_is_number f fd) : Gk P w K mg base (L2.CX P w) 1 f fd ["_law_value", "_law_low", "_law_high"] (spM K 3 F__law_is_number) := by
  refine gk_of (k := 0) F sc__law_is_number rfl G__law_is_number (fun cdv A below s H E hg hr => ?_) (same_pure (run_num rfl))
  have nd : N__law_is_number.Nodup := sc__law_is_number.nd
  have hx : Passes (L2.CX P w) (bx P w K mg base N__law_is_number "_law_is_number" s__law_is_number f cdv A below s H E) E := bx_pass
  have ho : PassesOwn (model P w) (bx P w K mg base N__law_is_number "_law_is_number" s__law_is_number f cdv A below s H E).A (bx P w K mg base N__law_is_number "_law_is_number" s__law_is_number f cdv A below s H E).env (bx P w K mg base N__law_is_number "_law_is_number" s__law_is_number f cdv A below s H E).xe := bx_own
  exact (q_one (s_ret (x_and (x_isi rfl T.m_isinstance PyProof.Rows.boot_isinstance rfl T.m_int (by decide +kernel) (x_name 0)) (x_and (x_not (x_isi rfl T.m_isinstance PyProof.Rows.boot_isinstance rfl T.m_bool (by decide +kernel) (x_name 0))) (x_one (x_chain o_le o_le (x_name 1) (x_name 0) (x_name 2)))))))
theorem call_num (d : PyData) (lo hi : Int) (μ : Mu) : F_is_number_from_to [.dat d, svI lo, svI hi] μ = some (.ok (.dat (.bool (numB d lo hi))) μ) := pureF_eq (enc := encN) (ok := okA) encN_inj (x := (d, lo, hi)) trivial μ
/-! ### a row -/
noncomputable def F_is_row : List Sv → M Sv := pureF encR okA fun x => .bool (rowB x.1 x.2)
abbrev s_is_row : Stmt := topS 8
abbrev N_is_row : List Str := ["row", "index"]
theorem sc_is_row : FnScope N_is_row ["row", "index"] (defScope s_is_row) := ⟨rfl, rfl, rfl, by decide +kernel, rfl, by decide +kernel, by decide +kernel⟩
noncomputable def G_is_row : Rho → M Out :=
  (gSeq (gIf (orT (notT (tst (isiV "tuple" (slot 0)))) (tst (bin pNe (callV bLen (argC (slot 0) argN)) (con (.int 2)))))
  (gRet (con (.bool false)))
  gSkip)
  (gRet (andV (callF F_is_number_from_to 3 (argC (bin pIx (slot 0) (con (.int 0))) (argC (con (.int 0)) (argC (slot 1) argN)))) (callF F_is_number_from_to 3 (argC (bin pIx (slot 0) (con (.int 1))) (argC (con (.int 1)) (argC (con (.int 1000000)) argN)))))))
theorem row_no {d : PyData} {k : Int} (μ : Mu) (h : isiV "tuple" (slot 0) [some (.dat d), some (svI k)] μ = some (.ok (.dat (.bool false)) μ)) (hr : rowB d k = false) : G_is_row [some (.dat d), some (svI k)] μ = some (.ok (.rt (.dat (.bool (rowB d k)))) μ) := by
  rw [hr]
  refine seq_rt ?_
  rw [if_t (or_t (not_at (tst_at h)))]
  rfl
theorem row_len {ds : List PyData} {k : Int} (μ : Mu) (h : ¬ ds.length = 2) : G_is_row [some (.dat (.tuple ds)), some (svI k)] μ = some (.ok (.rt (.dat (.bool false))) μ) := by
  refine seq_rt ?_
  have e : bin pNe (callV bLen (argC (slot 0) argN)) (con (.int 2)) [some (.dat (.tuple ds)), some (svI k)] μ = some (.ok (.dat (.bool true)) μ) := by
    rw [bin_at (show callV bLen (argC (slot 0) argN) [some (.dat (.tuple ds)), some (svI k)] μ = some (.ok (svI ds.length) μ) from rfl) (show con (.int 2) _ μ = some (.ok (svI 2) μ) from rfl)]
    show some (Res.ok (Sv.dat (.bool (true ^^ decide ((ds.length : Int) = 2)))) μ) = _
    rw [decide_eq_false (show ¬ (ds.length : Int) = 2 by omega)]
    rfl
  rw [if_t ((or_f (not_at (tst_at (show isiV "tuple" (slot 0) [some (.dat (.tuple ds)), some (svI k)] μ = some (.ok (.dat (.bool true)) μ) from rfl)))).trans (tst_at e))]
  rfl
theorem run_row (x : PyData × Int) (μ : Mu) (_ : okA x) : ∃ g, G_is_row (ini 2 (encR x)) μ = some (.ok (.rt (.dat (.bool (rowB x.1 x.2)))) (μ ++ g)) := by
  obtain ⟨d, k⟩ := x
  refine ⟨[], ?_⟩
  rw [List.append_nil]
  show G_is_row [some (.dat d), some (svI k)] μ = some (.ok (.rt (.dat (.bool (rowB d k)))) μ)
  cases d with
  | none => exact row_no μ rfl rfl
  | bool b => exact row_no μ rfl rfl
  | int b => exact row_no μ rfl rfl
  | str b => exact row_no μ rfl rfl
  | list b => exact row_no μ rfl rfl
  | dict b => exact row_no μ rfl rfl
  | tuple ds =>
    match ds with
    | [] => exact row_len μ (by decide)
    | [a] => exact row_len μ (by simp)
    | a :: b :: c :: r => exact row_len μ (by simp)
    | [a, b] =>
      have s1 : tst (bin pNe (callV bLen (argC (slot 0) argN)) (con (.int 2))) [some (.dat (.tuple [a, b])), some (svI k)] μ = some (.ok false μ) := rfl
      unfold G_is_row
      rw [seq_at (skip_at ((or_f (not_at (tst_at (show isiV "tuple" (slot 0) [some (.dat (.tuple [a, b])), some (svI k)] μ = some (.ok (.dat (.bool true)) μ) from rfl)))).trans s1))]
      refine ret_gives ?_
      have c1 : callF F_is_number_from_to 3 (argC (bin pIx (slot 0) (con (.int 0))) (argC (con (.int 0)) (argC (slot 1) argN))) [some (.dat (.tuple [a, b])), some (svI k)] μ = some (.ok (.dat (.bool (numB a 0 k))) μ) := by
        rw [call3_at (show bin pIx (slot 0) (con (.int 0)) [some (.dat (.tuple [a, b])), some (svI k)] μ = some (.ok (.dat a) μ) from rfl) (show con (.int 0) _ μ = some (.ok (svI 0) μ) from rfl) (show slot 1 [some (.dat (.tuple [a, b])), some (svI k)] μ = some (.ok (svI k) μ) from rfl)]
        exact call_num a 0 k μ
      have c2 : callF F_is_number_from_to 3 (argC (bin pIx (slot 0) (con (.int 1))) (argC (con (.int 1)) (argC (con (.int 1000000)) argN))) [some (.dat (.tuple [a, b])), some (svI k)] μ = some (.ok (.dat (.bool (numB b 1 1000000))) μ) := by
        rw [call3_at (show bin pIx (slot 0) (con (.int 1)) [some (.dat (.tuple [a, b])), some (svI k)] μ = some (.ok (.dat b) μ) from rfl) (show con (.int 1) _ μ = some (.ok (svI 1) μ) from rfl) (show con (.int 1000000) _ μ = some (.ok (svI 1000000) μ) from rfl)]
        exact call_num b 1 1000000 μ
      show _ = some (Res.ok (Sv.dat (.bool (numB a 0 k && numB b 1 1000000))) μ)
      cases hb : numB a 0 k with
      | false =>
        rw [hb] at c1
        rw [andV_f c1]
        rfl
      | true =>
        rw [hb] at c1
        rw [andV_t c1, c2]
        rfl
theorem ok_is_row (T : Top mg) {f : Addr} {fd : FuncData} (F : Fun K "is_row" "is_row" s_is_row f fd) {f_is_number_from_to : Addr} {fd_is_number_from_to : FuncData} (Fis_number_from_to : Fun K "is_number_from_to" "is_number_from_to" s_is_number_from_to f_is_number_from_to fd_is_number_from_to) (g_is_number_from_to : mg "is_number_from_to" = some (.ref f_is_number_from_to)) (b_is_number_from_to : Binds K fd_is_number_from_to ["value", "least", "most"] []) (C_is_number_from_to : Gk P w K mg base (L2.CX P w) 2 f_is_number_from_to fd_is_number_from_to ["value", "least", "most"] (spM K 3 F_is_number_from_to)) : Gk P w K mg base (L2.CX P w) 3 f fd ["row", "index"] (spM K 2 F_is_row) := by
  refine gk_of (k := 2) F sc_is_row rfl G_is_row (fun cdv A below s H E hg hr => ?_) (same_pure run_row)
  have nd : N_is_row.Nodup := sc_is_row.nd
  have hx : Passes (L2.CX P w) (bx P w K mg base N_is_row "is_row" s_is_row f cdv A below s H E) E := bx_pass
  have ho : PassesOwn (model P w) (bx P w K mg base N_is_row "is_row" s_is_row f cdv A below s H E).A (bx P w K mg base N_is_row "is_row" s_is_row f cdv A below s H E).env (bx P w K mg base N_is_row "is_row" s_is_row f cdv A below s H E).xe := bx_own
  exact (q_cons (s_if (t_w (w_or (t_not (t_val (x_isi rfl T.m_isinstance PyProof.Rows.boot_isinstance rfl T.m_tuple (by decide +kernel) (x_name 0)))) (w_or1 (t_cmp (o_ne (Room.units hr)) (x_callB b_len rfl T.m_len PySem.boot_len (a_cons (x_name 0) a_nil)) x_int))))
  (q_one (s_ret x_bl))
  q_nil)
  (q_one (s_ret (x_and (x_call1 C_is_number_from_to hg hr g_is_number_from_to Fis_number_from_to.kp b_is_number_from_to hx (a_cons (x_ix o_ix (x_name 0) x_int) (a_cons x_int (a_cons (x_name 1) a_nil)))) (x_one (x_call1 C_is_number_from_to hg hr g_is_number_from_to Fis_number_from_to.kp b_is_number_from_to hx (a_cons (x_ix o_ix (x_name 0) x_int) (a_cons x_int (a_cons (x_gintE rfl T.c_MAX_LENGTH) a_nil)))))))))
theorem call_row (d : PyData) (k : Int) (μ : Mu) : F_is_row [.dat d, svI k] μ = some (.ok (.dat (.bool (rowB d k))) μ) := pureF_eq (enc := encR) (ok := okA) encR_inj (x := (d, k)) trivial μ
/-! ### the error of a value -/
def enuFrom : Nat → List PyData → List PyData
  | _, [] => []
  | k, d :: r => .tuple [.int (k : Nat), d] :: enuFrom (k + 1) r
theorem fromTo_succ (lo : Int) (n : Nat) : fromTo lo (n + 1) = .int lo :: fromTo (lo + 1) n := by
  unfold fromTo
  rw [List.range_succ_eq_map, List.map_cons, List.map_map]
  congr 1
  · rw [show lo + ((0 : Nat) : Int) = lo from Int.add_zero lo]
  · refine List.map_congr_left fun k _ => ?_
    show PyData.int (lo + ((k + 1 : Nat) : Int)) = _
    congr 1
    omega
theorem zip_enu : ∀ (ds : List PyData) (k : Nat), zipD (fromTo (k : Nat) ds.length) ds = enuFrom k ds
  | [], _ => by simp [zipD, enuFrom]
  | d :: r, k => by
    have := zip_enu r (k + 1)
    rw [List.length_cons, fromTo_succ]
    show PyData.tuple [.int k, d] :: zipD (fromTo ((k : Int) + 1) r.length) r = _
    rw [show ((k : Int) + 1) = ((k + 1 : Nat) : Int) by omega, this]
    rfl
theorem enu_from (ds : List PyData) : enuD ds = enuFrom 0 ds := zip_enu ds 0
abbrev errT : Sv → Rho → M Rho := gTp 2 (gsCons (gNm 1) (gsCons (gNm 2) gsNil))
def rowE (k : Nat) : PyData := .tuple [.int (k : Nat), .str "row"]
def treeE : PyData := .tuple [.none, .str "tree"]
def BodyOk (B : Rho → M Out) : Prop := ∀ (v : Option Sv) (k : Nat) (d : PyData) (μ : Mu), B [v, some (svI (k : Nat)), some (.dat d)] μ = some (.ok (if rowB d k = true then .nx [v, some (svI (k : Nat)), some (.dat d)] else .rt (.dat (rowE k))) μ)
theorem err_loop {B : Rho → M Out} (hB : BodyOk B) (v : Option Sv) (μ : Mu) : ∀ (ds : List PyData) (k : Nat) (o1 o2 : Option Sv), ∃ p1 p2, loopG errT B (enuFrom k ds) [v, o1, o2] μ = some (.ok (match errL ds k with
    | none => .nx [v, p1, p2]
    | some j => .rt (.dat (rowE j))) μ)
  | [], k, o1, o2 => ⟨o1, o2, rfl⟩
  | d :: r, k, o1, o2 => by
    have t : errT (.dat (.tuple [.int (k : Nat), d])) [v, o1, o2] μ = some (.ok [v, some (svI (k : Nat)), some (.dat d)] μ) := rfl
    have b := hB v k d μ
    by_cases h : rowB d k = true
    · obtain ⟨p1, p2, e⟩ := err_loop hB v μ r (k + 1) (some (svI (k : Nat))) (some (.dat d))
      refine ⟨p1, p2, ?_⟩
      rw [if_pos h] at b
      unfold errL
      rw [if_pos h]
      show M.bind (errT _ _) _ μ = _
      rw [bind_ok t, bind_ok b]
      exact e
    · refine ⟨none, none, ?_⟩
      rw [if_neg h] at b
      unfold errL
      rw [if_neg h]
      show M.bind (errT _ _) _ μ = _
      rw [bind_ok t, bind_ok b]
      rfl
/-- both readings of the judge have this shape -/
def judgeG (T2 : Rho → M Bool) (B : Rho → M Out) : Rho → M Out := gSeq (gIf (orT (notT (tst (isiV "tuple" (slot 0)))) T2) (gRet (tupV (argC (con .none) (argC (con (.str "tree")) argN)))) gSkip) (gSeq (gFor (enuV (slot 0)) errT B) (gRet (con .none)))
theorem judge_no {T2 : Rho → M Bool} {B : Rho → M Out} {d : PyData} (μ : Mu) (h : isiV "tuple" (slot 0) [some (.dat d), none, none] μ = some (.ok (.dat (.bool false)) μ)) (he : errD d = treeE) : judgeG T2 B [some (.dat d), none, none] μ = some (.ok (.rt (.dat (errD d))) μ) := by
  rw [he]
  refine seq_rt ?_
  rw [if_t (or_t (not_at (tst_at h)))]
  rfl
theorem run_judge {T2 : Rho → M Bool} {B : Rho → M Out} (hB : BodyOk B) (hT : ∀ (ds : List PyData) (μ : Mu), T2 [some (.dat (.tuple ds)), none, none] μ = some (.ok (decide ((11 : Int) < ds.length)) μ)) (d : PyData) (μ : Mu) (_ : okA d) :
    ∃ g, judgeG T2 B (ini 3 (encD d)) μ = some (.ok (.rt (.dat (errD d))) (μ ++ g)) := by
  refine ⟨[], ?_⟩
  rw [List.append_nil]
  show judgeG T2 B [some (.dat d), none, none] μ = some (.ok (.rt (.dat (errD d))) μ)
  cases d with
  | none => exact judge_no μ rfl rfl
  | bool b => exact judge_no μ rfl rfl
  | int b => exact judge_no μ rfl rfl
  | str b => exact judge_no μ rfl rfl
  | list b => exact judge_no μ rfl rfl
  | dict b => exact judge_no μ rfl rfl
  | tuple ds =>
    have t1 := (or_f (G := T2) (not_at (tst_at (show isiV "tuple" (slot 0) [some (.dat (.tuple ds)), none, none] μ = some (.ok (.dat (.bool true)) μ) from rfl)))).trans (hT ds μ)
    by_cases h : (11 : Int) < ds.length
    · have he : errD (.tuple ds) = treeE := if_pos (decide_eq_true h)
      rw [decide_eq_true h] at t1
      rw [he]
      refine seq_rt ?_
      rw [if_t t1]
      rfl
    · have he : errD (.tuple ds) = match errL ds 0 with
        | none => .none
        | some k => .tuple [.int (k : Nat), .str "row"] := if_neg (by rw [decide_eq_false h]; exact Bool.false_ne_true)
      rw [decide_eq_false h] at t1
      rw [he]
      unfold judgeG
      rw [seq_at (skip_at t1)]
      obtain ⟨p1, p2, e⟩ := err_loop hB (some (.dat (.tuple ds))) μ ds 0 none none
      have f : gFor (enuV (slot 0)) errT B [some (.dat (.tuple ds)), none, none] μ = loopG errT B (enuFrom 0 ds) [some (.dat (.tuple ds)), none, none] μ := by
        rw [← enu_from]
        rfl
      cases q : errL ds 0 with
      | none =>
        rw [q] at e
        rw [seq_at (f.trans e)]
        rfl
      | some j =>
        rw [q] at e
        rw [seq_rt (f.trans e)]
        rfl
noncomputable def F_tree_error : List Sv → M Sv := pureF encD okA errD
noncomputable abbrev F__law_error := F_tree_error
theorem call_err (d : PyData) (μ : Mu) : F_tree_error [.dat d] μ = some (.ok (.dat (errD d)) μ) := pureF_eq (enc := encD) (ok := okA) encD_inj (x := d) trivial μ
abbrev s_tree_error : Stmt := topS 7
abbrev N_tree_error : List Str := ["value", "index", "row"]
theorem sc_tree_error : FnScope N_tree_error ["value"] (defScope s_tree_error) := ⟨rfl, rfl, rfl, by decide +kernel, rfl, by decide +kernel, by decide +kernel⟩
noncomputable def G_tree_error : Rho → M Out :=
  (gSeq (gIf (orT (notT (tst (isiV "tuple" (slot 0)))) (tst (bin pGt (callV bLen (argC (slot 0) argN)) (bin pSub (con (.int 12)) (con (.int 1))))))
  (gRet (tupV (argC (con .none) (argC (con (.str "tree")) argN))))
  gSkip)
  (gSeq (gFor (enuV (slot 0)) (gTp 2 (gsCons (gNm 1) (gsCons (gNm 2) gsNil)))
  (gIf (notT (tst (callF F_is_row 2 (argC (slot 2) (argC (slot 1) argN)))))
  (gRet (tupV (argC (slot 1) (argC (con (.str "row")) argN))))
  gSkip))
  (gRet (con .none))))
abbrev s__law_error : Stmt := topS 17
abbrev N__law_error : List Str := ["_law_value", "_law_k", "_law_row"]
theorem sc__law_error : FnScope N__law_error ["_law_value"] (defScope s__law_error) := ⟨rfl, rfl, rfl, by decide +kernel, rfl, by decide +kernel, by decide +kernel⟩
noncomputable def G__law_error : Rho → M Out :=
  (gSeq (gIf (orT (notT (tst (isiV "tuple" (slot 0)))) (tst (bin pGt (callV bLen (argC (slot 0) argN)) (con (.int 11)))))
  (gRet (tupV (argC (con .none) (argC (con (.str "tree")) argN))))
  gSkip)
  (gSeq (gFor (enuV (slot 0)) (gTp 2 (gsCons (gNm 1) (gsCons (gNm 2) gsNil)))
  (gSeq (gIf (orT (notT (tst (isiV "tuple" (slot 2)))) (orT (tst (bin pNe (callV bLen (argC (slot 2) argN)) (con (.int 2)))) (notT (tst (callF F__law_is_number 3 (argC (bin pIx (slot 2) (con (.int 0))) (argC (con (.int 0)) (argC (slot 1) argN))))))))
  (gRet (tupV (argC (slot 1) (argC (con (.str "row")) argN))))
  gSkip)
  (gIf (notT (tst (callF F__law_is_number 3 (argC (bin pIx (slot 2) (con (.int 1))) (argC (con (.int 1)) (argC (bin pPow (con (.int 10)) (con (.int 6))) argN))))))
  (gRet (tupV (argC (slot 1) (argC (con (.str "row")) argN))))
  gSkip)))
  (gRet (con .none))))
theorem body_tree : BodyOk (gIf (notT (tst (callF F_is_row 2 (argC (slot 2) (argC (slot 1) argN))))) (gRet (tupV (argC (slot 1) (argC (con (.str "row")) argN)))) gSkip) := fun v k d μ => by
  have t : tst (callF F_is_row 2 (argC (slot 2) (argC (slot 1) argN))) [v, some (svI (k : Nat)), some (.dat d)] μ = some (.ok (rowB d k) μ) := by
    refine tst_at ?_
    rw [call2_at (show slot 2 [v, some (svI (k : Nat)), some (.dat d)] μ = some (.ok (.dat d) μ) from rfl) (show slot 1 [v, some (svI (k : Nat)), some (.dat d)] μ = some (.ok (svI (k : Nat)) μ) from rfl)]
    exact call_row d k μ
  cases h : rowB d k with
  | true =>
    rw [h] at t
    rw [if_pos rfl]
    exact skip_at (not_at t)
  | false =>
    rw [h] at t
    rw [if_neg Bool.false_ne_true, if_t (not_at t)]
    rfl
noncomputable abbrev lawB : Rho → M Out := (gSeq (gIf (orT (notT (tst (isiV "tuple" (slot 2)))) (orT (tst (bin pNe (callV bLen (argC (slot 2) argN)) (con (.int 2)))) (notT (tst (callF F__law_is_number 3 (argC (bin pIx (slot 2) (con (.int 0))) (argC (con (.int 0)) (argC (slot 1) argN))))))))
  (gRet (tupV (argC (slot 1) (argC (con (.str "row")) argN))))
  gSkip)
  (gIf (notT (tst (callF F__law_is_number 3 (argC (bin pIx (slot 2) (con (.int 1))) (argC (con (.int 1)) (argC (bin pPow (con (.int 10)) (con (.int 6))) argN))))))
  (gRet (tupV (argC (slot 1) (argC (con (.str "row")) argN))))
  gSkip))
theorem lawB_no {v : Option Sv} {k : Nat} {d : PyData} (μ : Mu) (h : isiV "tuple" (slot 2) [v, some (svI (k : Nat)), some (.dat d)] μ = some (.ok (.dat (.bool false)) μ)) (hr : rowB d k = false) :
    lawB [v, some (svI (k : Nat)), some (.dat d)] μ = some (.ok (if rowB d k = true then .nx [v, some (svI (k : Nat)), some (.dat d)] else .rt (.dat (rowE k))) μ) := by
  rw [hr, if_neg Bool.false_ne_true]
  refine seq_rt ?_
  rw [if_t (or_t (not_at (tst_at h)))]
  rfl
theorem lawB_len {v : Option Sv} {k : Nat} {ds : List PyData} (μ : Mu) (h : ¬ ds.length = 2) (hr : rowB (.tuple ds) k = false) :
    lawB [v, some (svI (k : Nat)), some (.dat (.tuple ds))] μ = some (.ok (if rowB (.tuple ds) k = true then .nx [v, some (svI (k : Nat)), some (.dat (.tuple ds))] else .rt (.dat (rowE k))) μ) := by
  rw [hr, if_neg Bool.false_ne_true]
  refine seq_rt ?_
  have e : bin pNe (callV bLen (argC (slot 2) argN)) (con (.int 2)) [v, some (svI (k : Nat)), some (.dat (.tuple ds))] μ = some (.ok (.dat (.bool true)) μ) := by
    rw [bin_at (show callV bLen (argC (slot 2) argN) [v, some (svI (k : Nat)), some (.dat (.tuple ds))] μ = some (.ok (svI ds.length) μ) from rfl) (show con (.int 2) _ μ = some (.ok (svI 2) μ) from rfl)]
    show some (Res.ok (Sv.dat (.bool (true ^^ decide ((ds.length : Int) = 2)))) μ) = _
    rw [decide_eq_false (show ¬ (ds.length : Int) = 2 by omega)]
    rfl
  rw [if_t ((or_f (not_at (tst_at (show isiV "tuple" (slot 2) [v, some (svI (k : Nat)), some (.dat (.tuple ds))] μ = some (.ok (.dat (.bool true)) μ) from rfl)))).trans (or_t (tst_at e)))]
  rfl
theorem body_law : BodyOk lawB := fun v k d μ => by
  cases d with
  | none => exact lawB_no μ rfl rfl
  | bool b => exact lawB_no μ rfl rfl
  | int b => exact lawB_no μ rfl rfl
  | str b => exact lawB_no μ rfl rfl
  | list b => exact lawB_no μ rfl rfl
  | dict b => exact lawB_no μ rfl rfl
  | tuple ds =>
    match ds with
    | [] => exact lawB_len μ (by decide) rfl
    | [a] => exact lawB_len μ (by simp) rfl
    | a :: b :: c :: r => exact lawB_len μ (by simp) rfl
    | [a, b] =>
      have c1 : tst (callF F__law_is_number 3 (argC (bin pIx (slot 2) (con (.int 0))) (argC (con (.int 0)) (argC (slot 1) argN)))) [v, some (svI (k : Nat)), some (.dat (.tuple [a, b]))] μ = some (.ok (numB a 0 k) μ) := by
        refine tst_at ?_
        rw [call3_at (show bin pIx (slot 2) (con (.int 0)) [v, some (svI (k : Nat)), some (.dat (.tuple [a, b]))] μ = some (.ok (.dat a) μ) from rfl) (show con (.int 0) _ μ = some (.ok (svI 0) μ) from rfl) (show slot 1 [v, some (svI (k : Nat)), some (.dat (.tuple [a, b]))] μ = some (.ok (svI (k : Nat)) μ) from rfl)]
        exact call_num a 0 k μ
      have c2 : tst (callF F__law_is_number 3 (argC (bin pIx (slot 2) (con (.int 1))) (argC (con (.int 1)) (argC (bin pPow (con (.int 10)) (con (.int 6))) argN)))) [v, some (svI (k : Nat)), some (.dat (.tuple [a, b]))] μ = some (.ok (numB b 1 1000000) μ) := by
        refine tst_at ?_
        rw [call3_at (show bin pIx (slot 2) (con (.int 1)) [v, some (svI (k : Nat)), some (.dat (.tuple [a, b]))] μ = some (.ok (.dat b) μ) from rfl) (show con (.int 1) _ μ = some (.ok (svI 1) μ) from rfl) (show bin pPow (con (.int 10)) (con (.int 6)) _ μ = some (.ok (svI 1000000) μ) from rfl)]
        exact call_num b 1 1000000 μ
      have s1 : tst (bin pNe (callV bLen (argC (slot 2) argN)) (con (.int 2))) [v, some (svI (k : Nat)), some (.dat (.tuple [a, b]))] μ = some (.ok false μ) := rfl
      have t := ((or_f (G := orT (tst (bin pNe (callV bLen (argC (slot 2) argN)) (con (.int 2)))) (notT (tst (callF F__law_is_number 3 (argC (bin pIx (slot 2) (con (.int 0))) (argC (con (.int 0)) (argC (slot 1) argN))))))) (not_at (tst_at (show isiV "tuple" (slot 2) [v, some (svI (k : Nat)), some (.dat (.tuple [a, b]))] μ = some (.ok (.dat (.bool true)) μ) from rfl)))).trans (or_f s1)).trans (not_at c1)
      have hr : rowB (.tuple [a, b]) k = (numB a 0 k && numB b 1 1000000) := rfl
      rw [hr]
      cases ha : numB a 0 k with
      | false =>
        rw [ha] at t
        refine seq_rt ?_
        rw [if_t t]
        rfl
      | true =>
        rw [ha] at t
        show gSeq _ _ _ _ = _
        rw [seq_at (skip_at t)]
        cases hb : numB b 1 1000000 with
        | false =>
          rw [hb] at c2
          rw [if_t (not_at c2)]
          rfl
        | true =>
          rw [hb] at c2
          exact skip_at (not_at c2)
theorem ok_tree_error (T : Top mg) {f : Addr} {fd : FuncData} (F : Fun K "tree_error" "tree_error" s_tree_error f fd) {f_is_row : Addr} {fd_is_row : FuncData} (Fis_row : Fun K "is_row" "is_row" s_is_row f_is_row fd_is_row) (g_is_row : mg "is_row" = some (.ref f_is_row)) (b_is_row : Binds K fd_is_row ["row", "index"] []) (C_is_row : Gk P w K mg base (L2.CX P w) 3 f_is_row fd_is_row ["row", "index"] (spM K 2 F_is_row)) : Gk P w K mg base (L2.CX P w) 4 f fd ["value"] (spM K 1 F_tree_error) := by
  refine gk_of (k := 3) F sc_tree_error rfl G_tree_error (fun cdv A below s H E hg hr => ?_) (same_pure (run_judge body_tree fun _ _ => rfl))
  have nd : N_tree_error.Nodup := sc_tree_error.nd
  have hx : Passes (L2.CX P w) (bx P w K mg base N_tree_error "tree_error" s_tree_error f cdv A below s H E) E := bx_pass
  have ho : PassesOwn (model P w) (bx P w K mg base N_tree_error "tree_error" s_tree_error f cdv A below s H E).A (bx P w K mg base N_tree_error "tree_error" s_tree_error f cdv A below s H E).env (bx P w K mg base N_tree_error "tree_error" s_tree_error f cdv A below s H E).xe := bx_own
  exact (q_cons (s_if (t_w (w_or (t_not (t_val (x_isi rfl T.m_isinstance PyProof.Rows.boot_isinstance rfl T.m_tuple (by decide +kernel) (x_name 0)))) (w_or1 (t_cmp o_gt (x_callB b_len rfl T.m_len PySem.boot_len (a_cons (x_name 0) a_nil)) (x_bin o_sub (x_gintE rfl T.c_MAX_MARKS) x_int)))))
  (q_one (s_ret (x_tup (a_cons x_non (a_cons x_str a_nil)))))
  q_nil)
  (q_cons (s_for ho rfl (i_enu rfl T.m_enumerate (x_name 0)) (pg_tp 2 rfl (pgs_c (pg_nm 1 nd) (pgs_c (pg_nm 2 nd) pgs_0)))
  (q_one (s_if (t_not (t_val (x_call1 C_is_row hg hr g_is_row Fis_row.kp b_is_row hx (a_cons (x_name 2) (a_cons (x_name 1) a_nil)))))
  (q_one (s_ret (x_tup (a_cons (x_name 1) (a_cons x_str a_nil)))))
  q_nil)))
  (q_one (s_ret x_non))))
theorem ok__law_error (T : Top mg) {f : Addr} {fd : FuncData} (F : Fun K "_law_error" "_law_error" s__law_error f fd) {f__law_is_number : Addr} {fd__law_is_number : FuncData} (F_law_is_number : Fun K "_law_is_number" "_law_is_number" s__law_is_number f__law_is_number fd__law_is_number) (g__law_is_number : mg "_law_is_number" = some (.ref f__law_is_number)) (b__law_is_number : Binds K fd__law_is_number ["_law_value", "_law_low", "_law_high"] []) (C__law_is_number : Gk P w K mg base (L2.CX P w) 1 f__law_is_number fd__law_is_number ["_law_value", "_law_low", "_law_high"] (spM K 3 F__law_is_number)) : Gk P w K mg base (L2.CX P w) 2 f fd ["_law_value"] (spM K 1 F__law_error) := by
  refine gk_of (k := 1) F sc__law_error rfl G__law_error (fun cdv A below s H E hg hr => ?_) (same_pure (run_judge body_law fun _ _ => rfl))
  have nd : N__law_error.Nodup := sc__law_error.nd
  have hx : Passes (L2.CX P w) (bx P w K mg base N__law_error "_law_error" s__law_error f cdv A below s H E) E := bx_pass
  have ho : PassesOwn (model P w) (bx P w K mg base N__law_error "_law_error" s__law_error f cdv A below s H E).A (bx P w K mg base N__law_error "_law_error" s__law_error f cdv A below s H E).env (bx P w K mg base N__law_error "_law_error" s__law_error f cdv A below s H E).xe := bx_own
  exact (q_cons (s_if (t_w (w_or (t_not (t_val (x_isi rfl T.m_isinstance PyProof.Rows.boot_isinstance rfl T.m_tuple (by decide +kernel) (x_name 0)))) (w_or1 (t_cmp o_gt (x_callB b_len rfl T.m_len PySem.boot_len (a_cons (x_name 0) a_nil)) x_int))))
  (q_one (s_ret (x_tup (a_cons x_non (a_cons x_str a_nil)))))
  q_nil)
  (q_cons (s_for ho rfl (i_enu rfl T.m_enumerate (x_name 0)) (pg_tp 2 rfl (pgs_c (pg_nm 1 nd) (pgs_c (pg_nm 2 nd) pgs_0)))
  (q_cons (s_if (t_w (w_or (t_not (t_val (x_isi rfl T.m_isinstance PyProof.Rows.boot_isinstance rfl T.m_tuple (by decide +kernel) (x_name 2)))) (w_or (t_cmp (o_ne (Room.units hr)) (x_callB b_len rfl T.m_len PySem.boot_len (a_cons (x_name 2) a_nil)) x_int) (w_or1 (t_not (t_val (x_call1 C__law_is_number hg hr g__law_is_number F_law_is_number.kp b__law_is_number hx (a_cons (x_ix o_ix (x_name 2) x_int) (a_cons x_int (a_cons (x_name 1) a_nil))))))))))
  (q_one (s_ret (x_tup (a_cons (x_name 1) (a_cons x_str a_nil)))))
  q_nil)
  (q_one (s_if (t_not (t_val (x_call1 C__law_is_number hg hr g__law_is_number F_law_is_number.kp b__law_is_number hx (a_cons (x_ix o_ix (x_name 2) x_int) (a_cons x_int (a_cons (x_bin o_pow x_int x_int) a_nil))))))
  (q_one (s_ret (x_tup (a_cons (x_name 1) (a_cons x_str a_nil)))))
  q_nil))))
  (q_one (s_ret x_non))))
def nonB (d : PyData) : Bool := isNon (.dat d)
noncomputable def F_is_tree : List Sv → M Sv := pureF encD okA fun d => .bool (nonB (errD d))
abbrev s_is_tree : Stmt := topS 6
abbrev N_is_tree : List Str := ["value"]
theorem sc_is_tree : FnScope N_is_tree ["value"] (defScope s_is_tree) := ⟨rfl, rfl, rfl, by decide +kernel, rfl, by decide +kernel, by decide +kernel⟩
noncomputable def G_is_tree : Rho → M Out :=
  (gRet (bin (pIs false) (callF F_tree_error 1 (argC (slot 0) argN)) (con .none)))
theorem run_is_tree (d : PyData) (μ : Mu) (_ : okA d) : ∃ g, G_is_tree (ini 1 (encD d)) μ = some (.ok (.rt (.dat (.bool (nonB (errD d))))) (μ ++ g)) := by
  refine ⟨[], ?_⟩
  rw [List.append_nil]
  refine ret_gives ?_
  show bin _ _ _ [some (.dat d)] μ = _
  rw [bin_at ((call1_at (show slot 0 [some (.dat d)] μ = some (.ok (.dat d) μ) from rfl)).trans (call_err d μ)) (show con .none _ μ = some (.ok (.dat .none) μ) from rfl)]
  show some (Res.ok (Sv.dat (.bool (false ^^ isNon (.dat (errD d))))) μ) = _
  rw [Bool.false_xor]
  rfl
theorem ok_is_tree (T : Top mg) {f : Addr} {fd : FuncData} (F : Fun K "is_tree" "is_tree" s_is_tree f fd) {f_tree_error : Addr} {fd_tree_error : FuncData} (Ftree_error : Fun K "tree_error" "tree_error" s_tree_error f_tree_error fd_tree_error) (g_tree_error : mg "tree_error" = some (.ref f_tree_error)) (b_tree_error : Binds K fd_tree_error ["value"] []) (C_tree_error : Gk P w K mg base (L2.CX P w) 4 f_tree_error fd_tree_error ["value"] (spM K 1 F_tree_error)) : Gk P w K mg base (L2.CX P w) 5 f fd ["value"] (spM K 1 F_is_tree) := by
  refine gk_of (k := 4) F sc_is_tree rfl G_is_tree (fun cdv A below s H E hg hr => ?_) (same_pure run_is_tree)
  have nd : N_is_tree.Nodup := sc_is_tree.nd
  have hx : Passes (L2.CX P w) (bx P w K mg base N_is_tree "is_tree" s_is_tree f cdv A below s H E) E := bx_pass
  have ho : PassesOwn (model P w) (bx P w K mg base N_is_tree "is_tree" s_is_tree f cdv A below s H E).A (bx P w K mg base N_is_tree "is_tree" s_is_tree f cdv A below s H E).env (bx P w K mg base N_is_tree "is_tree" s_is_tree f cdv A below s H E).xe := bx_own
  exact (q_one (s_ret (x_cmp o_is (x_call1 C_tree_error hg hr g_tree_error Ftree_error.kp b_tree_error hx (a_cons (x_name 0) a_nil)) x_non)))
theorem call_is (d : PyData) (μ : Mu) : F_is_tree [.dat d] μ = some (.ok (.dat (.bool (nonB (errD d)))) μ) := pureF_eq (enc := encD) (ok := okA) encD_inj (x := d) trivial μ
/-! ### the law's own -/
abbrev F__law_deck := Fdeck
abbrev F__law_draw := Fdraw
abbrev F__law_same := Fsame
abbrev F__law_tree := Ftree
abbrev s__law_deck : Stmt := topS 10
abbrev N__law_deck : List Str := ["_law_script", "_law_cell"]
theorem sc__law_deck : FnScope N__law_deck ["_law_script"] (defScope s__law_deck) := ⟨rfl, rfl, rfl, by decide +kernel, rfl, by decide +kernel, by decide +kernel⟩
noncomputable def G__law_deck : Rho → M Out :=
  (gRet (lstV true (argC (lcV true [1] (seqV (slV false (slot 0) noPart (aPart (con (.int 63))))) (gNm 1) yes (callV bAbs (argC (slot 1) argN))) (argC (con (.int 0)) argN))))
theorem ok__law_deck (T : Top mg) {f : Addr} {fd : FuncData} (F : Fun K "_law_deck" "_law_deck" s__law_deck f fd) : Gk P w K mg base (L2.CX P w) 1 f fd ["_law_script"] (spM K 1 F__law_deck) := by
  refine gk_strip (k := 0) (l := 2) F sc__law_deck rfl rfl Gdeck (fun cdv A below s H E hg hr => ?_)
  have nd : N__law_deck.Nodup := sc__law_deck.nd
  have hx : Passes (L2.CX P w) (bx P w K mg base N__law_deck "_law_deck" s__law_deck f cdv A below s H E) E := bx_pass
  have ho : PassesOwn (model P w) (bx P w K mg base N__law_deck "_law_deck" s__law_deck f cdv A below s H E).A (bx P w K mg base N__law_deck "_law_deck" s__law_deck f cdv A below s H E).env (bx P w K mg base N__law_deck "_law_deck" s__law_deck f cdv A below s H E).xe := bx_own
  exact (q_one (s_ret (x_lst true (a_cons (x_lc true rfl nd (own := [("_law_cell", 1)]) (i_seq (x_slice false (x_name 0) o_none (o_some x_int))) (blkOk_by (N := N__law_deck) (sc := defScope s__law_deck) (by decide +kernel)) (fun _ _ _ _ _ => (pw_nm 1 nd (by decide))) (fun _ _ _ _ _ => ts_nil) (fun _ _ _ _ _ => (x_callB b_abs rfl T.m_abs PyProof.Rows.boot_abs (a_cons (x_name 1) a_nil)))) (a_cons x_int a_nil)))))
abbrev s__law_draw : Stmt := topS 11
abbrev N__law_draw : List Str := ["_law_deck_here", "_law_limit", "_law_cell", "_law_index"]
theorem sc__law_draw : FnScope N__law_draw ["_law_deck_here", "_law_limit"] (defScope s__law_draw) := ⟨rfl, rfl, rfl, by decide +kernel, rfl, by decide +kernel, by decide +kernel⟩
noncomputable def G__law_draw : Rho → M Out :=
  (gSeq (gAsg (bin (pAdd false) (bin pIx (slot 0) (con (.int 1))) (con (.int 1))) (gSt (slot 0) (con (.int 1))))
  (gSeq (gAsg (tupV (argC (con (.int 0)) (argC (negV (con (.int 1))) argN))) (gTp 2 (gsCons (gNm 2) (gsCons (gNm 3) gsNil))))
  (gSeq (gIf (tst (bin pGt (callV bLen (argC (bin pIx (slot 0) (con (.int 0))) argN)) (con (.int 0))))
  (gSeq (gSet 3 (bin pMod (bin pIx (slot 0) (con (.int 1))) (callV bLen (argC (bin pIx (slot 0) (con (.int 0))) argN))))
  (gSet 2 (bin pIx (bin pIx (slot 0) (con (.int 0))) (slot 3))))
  gSkip)
  (gSeq (gIf (tst (bin pGe (slot 2) (bin pPow (con (.int 10)) (con (.int 18)))))
  (gSeq (gAsg (bin pFdiv (slot 2) (slot 1)) (gSt (bin pIx (slot 0) (con (.int 0))) (slot 3)))
  (gRet (bin pMod (slot 2) (slot 1))))
  gSkip)
  (gRet (bin pMod (bin pFdiv (bin pMod (bin pPow (bin (pAdd false) (bin (pAdd false) (bin pMod (slot 2) (con (.int 2147483587))) (bin (pMul false) (con (.int 7919)) (bin pIx (slot 0) (con (.int 1))))) (con (.int 1))) (con (.int 5))) (con (.int 2147483647))) (con (.int 7))) (slot 1)))))))
theorem ok__law_draw (T : Top mg) {f : Addr} {fd : FuncData} (F : Fun K "_law_draw" "_law_draw" s__law_draw f fd) : Gk P w K mg base (L2.CX P w) 1 f fd ["_law_deck_here", "_law_limit"] (spM K 2 F__law_draw) := by
  refine gk_strip (k := 0) (l := 4) F sc__law_draw rfl rfl Gdraw (fun cdv A below s H E hg hr => ?_)
  have nd : N__law_draw.Nodup := sc__law_draw.nd
  have hx : Passes (L2.CX P w) (bx P w K mg base N__law_draw "_law_draw" s__law_draw f cdv A below s H E) E := bx_pass
  have ho : PassesOwn (model P w) (bx P w K mg base N__law_draw "_law_draw" s__law_draw f cdv A below s H E).A (bx P w K mg base N__law_draw "_law_draw" s__law_draw f cdv A below s H E).env (bx P w K mg base N__law_draw "_law_draw" s__law_draw f cdv A below s H E).xe := bx_own
  exact (q_cons (s_asg (x_bin o_add (x_ix o_ix (x_name 0) x_int) x_int) (pg_st (x_name 0) x_int (pg_sub (x_name 0) x_int set_list)))
  (q_cons (s_asg (x_tup (a_cons x_int (a_cons (x_ng x_int) a_nil))) (pg_tp 2 rfl (pgs_c (pg_nm 2 nd) (pgs_c (pg_nm 3 nd) pgs_0))))
  (q_cons (s_if (t_cmp o_gt (x_callB b_len rfl T.m_len PySem.boot_len (a_cons (x_ix o_ix (x_name 0) x_int) a_nil)) x_int)
  (q_cons (s_set 3 nd (x_bin o_mod (x_ix o_ix (x_name 0) x_int) (x_callB b_len rfl T.m_len PySem.boot_len (a_cons (x_ix o_ix (x_name 0) x_int) a_nil))))
  (q_one (s_set 2 nd (x_ix o_ix (x_ix o_ix (x_name 0) x_int) (x_name 3)))))
  q_nil)
  (q_cons (s_if (t_cmp o_ge (x_name 2) (x_bin o_pow x_int x_int))
  (q_cons (s_asg (x_bin o_fdiv (x_name 2) (x_name 1)) (pg_st (x_ix o_ix (x_name 0) x_int) (x_name 3) (pg_sub (x_ix o_ix (x_name 0) x_int) (x_name 3) set_list)))
  (q_one (s_ret (x_bin o_mod (x_name 2) (x_name 1)))))
  q_nil)
  (q_one (s_ret (x_bin o_mod (x_bin o_fdiv (x_bin o_mod (x_bin o_pow (x_bin o_add (x_bin o_add (x_bin o_mod (x_name 2) x_int) (x_bin o_mul x_int (x_ix o_ix (x_name 0) x_int))) x_int) x_int) x_int) x_int) (x_name 1))))))))
abbrev s__law_same : Stmt := topS 12
abbrev N__law_same : List Str := ["_law_value", "_law_due"]
theorem sc__law_same : FnScope N__law_same ["_law_value", "_law_due"] (defScope s__law_same) := ⟨rfl, rfl, rfl, by decide +kernel, rfl, by decide +kernel, by decide +kernel⟩
noncomputable def G__law_same : Rho → M Out :=
  (gRet (bin pEq (callV bRepr (argC (slot 0) argN)) (callV bRepr (argC (slot 1) argN))))
theorem ok__law_same (T : Top mg) {f : Addr} {fd : FuncData} (F : Fun K "_law_same" "_law_same" s__law_same f fd) : Gk P w K mg base (L2.CX P w) 1 f fd ["_law_value", "_law_due"] (spM K 2 F__law_same) := by
  refine gk_strip (k := 0) (l := 2) F sc__law_same rfl rfl Gsame (fun cdv A below s H E hg hr => ?_)
  have nd : N__law_same.Nodup := sc__law_same.nd
  have hx : Passes (L2.CX P w) (bx P w K mg base N__law_same "_law_same" s__law_same f cdv A below s H E) E := bx_pass
  have ho : PassesOwn (model P w) (bx P w K mg base N__law_same "_law_same" s__law_same f cdv A below s H E).A (bx P w K mg base N__law_same "_law_same" s__law_same f cdv A below s H E).env (bx P w K mg base N__law_same "_law_same" s__law_same f cdv A below s H E).xe := bx_own
  exact (q_one (s_ret (x_cmp (o_eq (Room.units hr)) (x_callB (b_repr hg (Room.units hr)) rfl T.m_repr (by decide +kernel) (a_cons (x_name 0) a_nil)) (x_callB (b_repr hg (Room.units hr)) rfl T.m_repr (by decide +kernel) (a_cons (x_name 1) a_nil)))))
abbrev s__law_tree : Stmt := topS 14
abbrev N__law_tree : List Str := ["_law_deck_here", "_law_most", "_law_count", "_law_k", "_law_way", "_law_long", "_law_found", "_law_parent"]
theorem sc__law_tree : FnScope N__law_tree ["_law_deck_here", "_law_most"] (defScope s__law_tree) := ⟨rfl, rfl, rfl, by decide +kernel, rfl, by decide +kernel, by decide +kernel⟩
noncomputable def G__law_tree : Rho → M Out :=
  (gSeq (gSet 2 (bin pIx (lstV false (argC (bin (pAdd false) (con (.int 1)) (callF F__law_draw 2 (argC (slot 0) (argC (slot 1) argN)))) (argC (slot 1) argN))) (callF F__law_draw 2 (argC (slot 0) (argC (con (.int 2)) argN)))))
  (gSeq (gPar3 4 5 6 (argC (callF F__law_draw 2 (argC (slot 0) (argC (con (.int 4)) argN))) (argC (bin pIx (lstV false (argC (con (.int 1)) (argC (con (.int 3)) (argC (con (.int 9)) (argC (bin pPow (con (.int 10)) (con (.int 6))) argN))))) (callF F__law_draw 2 (argC (slot 0) (argC (con (.int 4)) argN)))) (argC (tupV argN) argN))))
  (gSeq (gFor (rngV (bin pSub (slot 2) (con (.int 1)))) (gNm 3)
  (gSeq (gSet 7 (bin pIx (lstV false (argC (callF F__law_draw 2 (argC (slot 0) (argC (bin (pAdd false) (slot 3) (con (.int 1))) argN))) (argC (slot 3) (argC (con (.int 0)) (argC (callV bMax2 (argC (con (.int 0)) (argC (bin pSub (slot 3) (con (.int 1))) argN))) argN))))) (slot 4)))
  (gSet 6 (bin (pAdd false) (slot 6) (tupV (argC (tupV (argC (slot 7) (argC (bin (pAdd false) (con (.int 1)) (callF F__law_draw 2 (argC (slot 0) (argC (slot 5) argN)))) argN))) argN))))))
  (gRet (slot 6)))))
theorem ok__law_tree (T : Top mg) {f : Addr} {fd : FuncData} (F : Fun K "_law_tree" "_law_tree" s__law_tree f fd) {f__law_draw : Addr} {fd__law_draw : FuncData} (F_law_draw : Fun K "_law_draw" "_law_draw" s__law_draw f__law_draw fd__law_draw) (g__law_draw : mg "_law_draw" = some (.ref f__law_draw)) (b__law_draw : Binds K fd__law_draw ["_law_deck_here", "_law_limit"] []) (C__law_draw : Gk P w K mg base (L2.CX P w) 1 f__law_draw fd__law_draw ["_law_deck_here", "_law_limit"] (spM K 2 F__law_draw)) : Gk P w K mg base (L2.CX P w) 2 f fd ["_law_deck_here", "_law_most"] (spM K 2 F__law_tree) := by
  refine gk_strip (k := 1) (l := 8) F sc__law_tree rfl rfl Gtree (fun cdv A below s H E hg hr => ?_)
  have nd : N__law_tree.Nodup := sc__law_tree.nd
  have hx : Passes (L2.CX P w) (bx P w K mg base N__law_tree "_law_tree" s__law_tree f cdv A below s H E) E := bx_pass
  have ho : PassesOwn (model P w) (bx P w K mg base N__law_tree "_law_tree" s__law_tree f cdv A below s H E).A (bx P w K mg base N__law_tree "_law_tree" s__law_tree f cdv A below s H E).env (bx P w K mg base N__law_tree "_law_tree" s__law_tree f cdv A below s H E).xe := bx_own
  exact (q_cons (s_set 2 nd (x_ix o_ix (x_lst false (a_cons (x_bin o_add x_int (x_call1 C__law_draw hg hr g__law_draw F_law_draw.kp b__law_draw hx (a_cons (x_name 0) (a_cons (x_name 1) a_nil)))) (a_cons (x_name 1) a_nil))) (x_call1 C__law_draw hg hr g__law_draw F_law_draw.kp b__law_draw hx (a_cons (x_name 0) (a_cons x_int a_nil)))))
  (q_cons (s_par3 4 5 6 rfl nd (a_cons (x_call1 C__law_draw hg hr g__law_draw F_law_draw.kp b__law_draw hx (a_cons (x_name 0) (a_cons x_int a_nil))) (a_cons (x_ix o_ix (x_lst false (a_cons x_int (a_cons x_int (a_cons x_int (a_cons (x_bin o_pow x_int x_int) a_nil))))) (x_call1 C__law_draw hg hr g__law_draw F_law_draw.kp b__law_draw hx (a_cons (x_name 0) (a_cons x_int a_nil)))) (a_cons (x_tup a_nil) a_nil))) (by first | rfl | with_unfolding_all rfl))
  (q_cons (s_for ho rfl (i_rng rfl T.m_range (x_bin o_sub (x_name 2) x_int)) (pg_nm 3 nd)
  (q_cons (s_set 7 nd (x_ix o_ix (x_lst false (a_cons (x_call1 C__law_draw hg hr g__law_draw F_law_draw.kp b__law_draw hx (a_cons (x_name 0) (a_cons (x_bin o_add (x_name 3) x_int) a_nil))) (a_cons (x_name 3) (a_cons x_int (a_cons (x_callB b_max2 rfl T.m_max (by decide +kernel) (a_cons x_int (a_cons (x_bin o_sub (x_name 3) x_int) a_nil))) a_nil))))) (x_name 4)))
  (q_one (s_set 6 nd (x_bin o_add (x_name 6) (x_tup (a_cons (x_tup (a_cons (x_name 7) (a_cons (x_bin o_add x_int (x_call1 C__law_draw hg hr g__law_draw F_law_draw.kp b__law_draw hx (a_cons (x_name 0) (a_cons (x_name 5) a_nil)))) a_nil))) a_nil)))))))
  (q_one (s_ret (x_name 6))))))
/-! ### strange values -/
def odds1 : List PyData := [.none, .bool true, .bool false, .int (-1), .int 0, .int 1, .int 11, .int (10 ^ 39), .str "", .str "0", .tuple [], .list [], .dict [], .tuple [.int 0], .list [.int 0], .tuple [.bool true], .tuple [.int 0, .int 0], .tuple [.int 0, .int 1]]
def odds2 : List PyData := [.tuple [.tuple [.int 0, .int 0]], .tuple [.tuple [.int 0, .int 1]], .list [.tuple [.int 0, .int 1]], .tuple [.int 0, .bool true], .dict [(.str "a", .int 0)], .tuple [.tuple [.int 0, .int 1000000001]]]
theorem odds_va : ∀ d ∈ odds1 ++ odds2, Some' d 110 3 := by
  have h : (odds1 ++ odds2).all (fun d => vaB false d 110 3 || vaB true d 110 3) = true := by decide +kernel
  intro d hd
  rcases Bool.or_eq_true_iff.mp (List.all_eq_true.mp h d hd) with z | z
  · exact ⟨false, .of z⟩
  · exact ⟨true, .of z⟩
abbrev s__law_odd : Stmt := topS 15
abbrev N__law_odd : List Str := ["_law_deck_here", "_law_some"]
theorem sc__law_odd : FnScope N__law_odd ["_law_deck_here"] (defScope s__law_odd) := ⟨rfl, rfl, rfl, by decide +kernel, rfl, by decide +kernel, by decide +kernel⟩
noncomputable def G__law_odd : Rho → M Out :=
  (gSeq (gSet 1 (lstV false (argC (con .none) (argC (con (.bool true)) (argC (con (.bool false)) (argC (negV (con (.int 1))) (argC (con (.int 0)) (argC (con (.int 1)) (argC (con (.int 11)) (argC (bin pPow (con (.int 10)) (con (.int 39))) (argC (con (.str "")) (argC (con (.str "0")) (argC (tupV argN) (argC (lstV false argN) (argC (con (.dict [])) (argC (tupV (argC (con (.int 0)) argN)) (argC (lstV false (argC (con (.int 0)) argN)) (argC (tupV (argC (con (.bool true)) argN)) (argC (tupV (argC (con (.int 0)) (argC (con (.int 0)) argN))) (argC (tupV (argC (con (.int 0)) (argC (con (.int 1)) argN))) argN))))))))))))))))))))
  (gRet (bin pIx (bin (pAdd false) (slot 1) (lstV false (argC (tupV (argC (tupV (argC (con (.int 0)) (argC (con (.int 0)) argN))) argN)) (argC (tupV (argC (tupV (argC (con (.int 0)) (argC (con (.int 1)) argN))) argN)) (argC (lstV false (argC (tupV (argC (con (.int 0)) (argC (con (.int 1)) argN))) argN)) (argC (tupV (argC (con (.int 0)) (argC (con (.bool true)) argN))) (argC (con (.dict [(.str "a", .int 0)])) (argC (tupV (argC (tupV (argC (con (.int 0)) (argC (bin (pAdd false) (bin pPow (con (.int 10)) (con (.int 9))) (con (.int 1))) argN))) argN)) argN)))))))) (callF F__law_draw 2 (argC (slot 0) (argC (con (.int 24)) argN))))))
noncomputable def F__law_odd : List Sv → M Sv := strip 2 G__law_odd
theorem ok__law_odd (T : Top mg) {f : Addr} {fd : FuncData} (F : Fun K "_law_odd" "_law_odd" s__law_odd f fd) {f__law_draw : Addr} {fd__law_draw : FuncData} (F_law_draw : Fun K "_law_draw" "_law_draw" s__law_draw f__law_draw fd__law_draw) (g__law_draw : mg "_law_draw" = some (.ref f__law_draw)) (b__law_draw : Binds K fd__law_draw ["_law_deck_here", "_law_limit"] []) (C__law_draw : Gk P w K mg base (L2.CX P w) 1 f__law_draw fd__law_draw ["_law_deck_here", "_law_limit"] (spM K 2 F__law_draw)) : Gk P w K mg base (L2.CX P w) 2 f fd ["_law_deck_here"] (spM K 1 F__law_odd) := by
  refine gk_strip (k := 1) (l := 2) F sc__law_odd rfl rfl G__law_odd (fun cdv A below s H E hg hr => ?_)
  have nd : N__law_odd.Nodup := sc__law_odd.nd
  have hx : Passes (L2.CX P w) (bx P w K mg base N__law_odd "_law_odd" s__law_odd f cdv A below s H E) E := bx_pass
  have ho : PassesOwn (model P w) (bx P w K mg base N__law_odd "_law_odd" s__law_odd f cdv A below s H E).A (bx P w K mg base N__law_odd "_law_odd" s__law_odd f cdv A below s H E).env (bx P w K mg base N__law_odd "_law_odd" s__law_odd f cdv A below s H E).xe := bx_own
  exact (q_cons (s_set 1 nd (x_lst false (a_cons x_non (a_cons x_bl (a_cons x_bl (a_cons (x_ng x_int) (a_cons x_int (a_cons x_int (a_cons x_int (a_cons (x_bin o_pow x_int x_int) (a_cons x_str (a_cons x_str (a_cons (x_tup a_nil) (a_cons (x_lst false a_nil) (a_cons x_dict0 (a_cons (x_tup (a_cons x_int a_nil)) (a_cons (x_lst false (a_cons x_int a_nil)) (a_cons (x_tup (a_cons x_bl a_nil)) (a_cons (x_tup (a_cons x_int (a_cons x_int a_nil))) (a_cons (x_tup (a_cons x_int (a_cons x_int a_nil))) a_nil))))))))))))))))))))
  (q_one (s_ret (x_ix o_ix (x_bin o_add (x_name 1) (x_lst false (a_cons (x_tup (a_cons (x_tup (a_cons x_int (a_cons x_int a_nil))) a_nil)) (a_cons (x_tup (a_cons (x_tup (a_cons x_int (a_cons x_int a_nil))) a_nil)) (a_cons (x_lst false (a_cons (x_tup (a_cons x_int (a_cons x_int a_nil))) a_nil)) (a_cons (x_tup (a_cons x_int (a_cons x_bl a_nil))) (a_cons x_dict1 (a_cons (x_tup (a_cons (x_tup (a_cons x_int (a_cons (x_bin o_add (x_bin o_pow x_int x_int) x_int) a_nil))) a_nil)) a_nil)))))))) (x_call1 C__law_draw hg hr g__law_draw F_law_draw.kp b__law_draw hx (a_cons (x_name 0) (a_cons x_int a_nil)))))))
theorem odd_ok {n : Int} {μ : Mu} (D : Deck n [] μ) (h0 : 0 ≤ n) (h1 : n < 10 ^ 10) : ∃ d μ', F__law_odd [.ref 1] μ = some (.ok (.dat d) μ') ∧ Some' d 110 3 ∧ Deck (n + 1) [] μ' := by
  obtain ⟨r, μ1, e1, r0, r1, D1⟩ := draw_ok D h0 (by omega) (L := 24) (by omega) (by omega)
  obtain ⟨d, hd, e⟩ := atI_mem (xs := odds1 ++ odds2) r0 (show r < ((24 : Nat) : Int) from r1)
  refine ⟨d, μ1, strip_rt ?_, odds_va d hd, D1⟩
  show G__law_odd [some (.ref 1), none] μ = _
  unfold G__law_odd
  rw [seq_at (ρ' := [some (.ref 1), some (.dat (.list odds1))]) (μ' := μ) (gset_at (lst_at odds1 rfl rfl (by decide)))]
  refine ret_gives ?_
  rw [bin_at (μ1 := μ) (μ2 := μ1) (a := .dat (.list (odds1 ++ odds2))) (b := svI r) ((bin_at (show slot 1 _ μ = some (.ok (.dat (.list odds1)) μ) from rfl) (lst_at odds2 rfl rfl (by decide))).trans (cat_at (by decide) μ)) ((call2_at rfl rfl).trans e1)]
  exact lix_at e μ1
/-! ### a tree's twin -/
def oneD (i : Int) : PyData := if i < 2 then .bool (decide (i = 1)) else .int i
def twinD (rows : List (Int × Int)) : PyData := .tuple (rows.map fun r => .tuple [oneD r.1, oneD r.2])
noncomputable def F__law_twin : List Sv → M Sv := pureF (fun rows : List (Int × Int) => [Sv.dat (treeD rows)]) (fun rows => rows.length ≤ 11) twinD
abbrev s__law_twin : Stmt := topS 16
abbrev N__law_twin : List Str := ["_law_rows", "_law_row", "_law_one"]
theorem sc__law_twin : FnScope N__law_twin ["_law_rows"] (defScope s__law_twin) := ⟨rfl, rfl, rfl, by decide +kernel, rfl, by decide +kernel, by decide +kernel⟩
noncomputable def G__law_twin : Rho → M Out :=
  (gRet (callV bTuple (argC (lcV false [1] (seqV (slot 0)) (gNm 1) yes (callV bTuple (argC (lcV false [2] (seqV (slot 1)) (gNm 2) yes (bin pIx (lstV false (argC (slot 2) (argC (bin pEq (slot 2) (con (.int 1))) argN))) (callV bInt (argC (bin pLt (slot 2) (con (.int 2))) argN)))) argN))) argN)))
theorem call_twin {rows : List (Int × Int)} (hl : rows.length ≤ 11) (μ : Mu) : F__law_twin [.dat (treeD rows)] μ = some (.ok (.dat (twinD rows)) μ) :=
  pureF_eq (enc := fun rows : List (Int × Int) => [Sv.dat (treeD rows)]) (ok := fun rows => rows.length ≤ 11) (fun x y h => treeD_inj (Sv.dat.inj (List.cons.inj h).1)) (x := rows) hl μ
theorem run_twin (rows : List (Int × Int)) (μ : Mu) (hl : rows.length ≤ 11) : ∃ g, G__law_twin (ini 3 [Sv.dat (treeD rows)]) μ = some (.ok (.rt (.dat (twinD rows))) (μ ++ g)) := by
  refine ⟨[], ?_⟩
  rw [List.append_nil]
  show G__law_twin [some (.dat (treeD rows)), none, none] μ = _
  refine ret_gives ?_
  have one : ∀ (o1 : Option Sv) (i : Int), bin pIx (lstV false (argC (slot 2) (argC (bin pEq (slot 2) (con (.int 1))) argN))) (callV bInt (argC (bin pLt (slot 2) (con (.int 2))) argN)) [some (.dat (treeD rows)), o1, some (svI i)] μ = some (.ok (.dat (oneD i)) μ) := fun o1 i => by
    have e1 : bin pEq (slot 2) (con (.int 1)) [some (.dat (treeD rows)), o1, some (svI i)] μ = some (.ok (.dat (.bool (decide (i = 1)))) μ) := by
      show some (Res.ok (Sv.dat (.bool (false ^^ decide (i = 1)))) μ) = _
      rw [Bool.false_xor]
    have e2 : callV bInt (argC (bin pLt (slot 2) (con (.int 2))) argN) [some (.dat (treeD rows)), o1, some (svI i)] μ = some (.ok (svI (if decide (i < 2) = true then 1 else 0)) μ) := rfl
    rw [bin_at (lst_at [.int i, .bool (decide (i = 1))] (args_c (show slot 2 _ μ = some (.ok (svI i) μ) from rfl) (args_c e1 args_n)) rfl (by show 2 ≤ 1000000; decide)) e2]
    unfold oneD
    by_cases h : i < 2
    · rw [decide_eq_true h, if_pos rfl, if_pos h]
      rfl
    · rw [decide_eq_false h, if_neg Bool.false_ne_true, if_neg h]
      rfl
  have row : ∀ r : Int × Int, callV bTuple (argC (lcV false [2] (seqV (slot 1)) (gNm 2) yes (bin pIx (lstV false (argC (slot 2) (argC (bin pEq (slot 2) (con (.int 1))) argN))) (callV bInt (argC (bin pLt (slot 2) (con (.int 2))) argN)))) argN) [some (.dat (treeD rows)), some (.dat (rowD r)), none] μ = some (.ok (.dat (.tuple [oneD r.1, oneD r.2])) μ) := fun r => by
    rw [callV1_at (a := .dat (.list [oneD r.1, oneD r.2])) (μ1 := μ)]
    · exact btup_at _ μ
    · rw [lcV_at (fun d => match d with
        | .int i => .dat (oneD i)
        | _ => .dat .none) (show seqV (slot 1) _ μ = some (.ok [.int r.1, .int r.2] μ) from rfl) (show 2 ≤ 1000000 by decide)]
      · exact mkl_dat [oneD r.1, oneD r.2] μ
      · intro d hd
        rcases List.mem_cons.mp hd with rfl | hd
        · exact ⟨_, rfl, one _ _⟩
        · rw [List.mem_singleton.mp hd]
          exact ⟨_, rfl, one _ _⟩
  rw [callV1_at (a := .dat (.list (rows.map fun r => .tuple [oneD r.1, oneD r.2]))) (μ1 := μ)]
  · exact btup_at _ μ
  · rw [lcV_at (fun d => match d with
      | .tuple [.int x, .int y] => .dat (.tuple [oneD x, oneD y])
      | _ => .dat .none) (show seqV (slot 0) _ μ = some (.ok (rows.map rowD) μ) from rfl) (show (rows.map rowD).length ≤ 1000000 by rw [List.length_map]; omega)]
    · rw [List.map_map]
      exact mkl_mapD rows (fun r => .tuple [oneD r.1, oneD r.2]) μ
    · intro d hd
      obtain ⟨r, _, rfl⟩ := List.mem_map.mp hd
      exact ⟨_, rfl, row r⟩
theorem ok__law_twin (T : Top mg) {f : Addr} {fd : FuncData} (F : Fun K "_law_twin" "_law_twin" s__law_twin f fd) : Gk P w K mg base (L2.CX P w) 1 f fd ["_law_rows"] (spM K 1 F__law_twin) := by
  refine gk_of (k := 0) F sc__law_twin rfl G__law_twin (fun cdv A below s H E hg hr => ?_) (same_pure run_twin)
  have nd : N__law_twin.Nodup := sc__law_twin.nd
  have hx : Passes (L2.CX P w) (bx P w K mg base N__law_twin "_law_twin" s__law_twin f cdv A below s H E) E := bx_pass
  have ho : PassesOwn (model P w) (bx P w K mg base N__law_twin "_law_twin" s__law_twin f cdv A below s H E).A (bx P w K mg base N__law_twin "_law_twin" s__law_twin f cdv A below s H E).env (bx P w K mg base N__law_twin "_law_twin" s__law_twin f cdv A below s H E).xe := bx_own
  exact (q_one (s_ret (x_callTy b_tuple rfl T.m_tuple (by decide +kernel) (a_cons (x_lc false rfl nd (own := [("_law_row", 1)]) (i_seq (x_name 0)) (blkOk_by (N := N__law_twin) (sc := defScope s__law_twin) (by decide +kernel)) (fun _ _ _ _ _ => (pw_nm 1 nd (by decide))) (fun _ _ _ _ _ => ts_nil) (fun _ _ _ _ _ => (x_callTy b_tuple rfl T.m_tuple (by decide +kernel) (a_cons (x_lc false rfl nd (own := [("_law_one", 2)]) (i_seq (x_name 1)) (blkOk_by (N := N__law_twin) (by with_unfolding_all rfl)) (fun _ _ _ _ _ => (pw_nm 2 nd (by decide))) (fun _ _ _ _ _ => ts_nil) (fun _ _ _ _ _ => (x_ix o_ix (x_lst false (a_cons (x_name 2) (a_cons (x_cmp (o_eq (Room.units hr)) (x_name 2) x_int) a_nil))) (x_callTy b_int rfl T.m_int (by decide +kernel) (a_cons (x_cmp o_lt (x_name 2) x_int) a_nil))))) a_nil)))) a_nil))))
theorem va_one {c : Bool} {i : Int} (h : i.natAbs < 10 ^ 42) : Va c (oneD i) 44 0 := by
  unfold oneD
  split
  · refine .of ?_
    cases decide (i = 1) <;> cases c <;> decide +kernel
  · exact .int h
theorem va_twin {rows : List (Int × Int)} (ok : TreeOk rows) (hl : rows.length ≤ 11) : Va false (twinD rows) 2000 2 := by
  have h : ∀ d ∈ rows.map (fun r : Int × Int => PyData.tuple [oneD r.1, oneD r.2]), Va false d 95 1 := fun d hd => by
    obtain ⟨r, hr, rfl⟩ := List.mem_map.mp hd
    have b := ok.at_ hr
    refine Va.tuple (ds := [oneD r.1, oneD r.2]) (n := 44) (k := 0) fun d hd => ?_
    rcases List.mem_cons.mp hd with rfl | hd
    · exact va_one (Nat.lt_trans (show r.1.natAbs < 10000000 by omega) (by decide +kernel))
    · rw [List.mem_singleton.mp hd]
      exact va_one (Nat.lt_trans (show r.2.natAbs < 10000000 by omega) (by decide +kernel))
  refine (Va.tuple h).up ?_ (Nat.le_refl _)
  rw [List.length_map]
  omega
/-! ### a changed tree -/
abbrev s__law_changed : Stmt := topS 18
abbrev N__law_changed : List Str := ["_law_deck_here", "_law_tree_here", "_law_row", "_law_part", "_law_bent", "_law_new", "_law_some", "_law_at", "_law_j", "_law_strange", "_law_head", "_law_tail", "_law_more"]
theorem sc__law_changed : FnScope N__law_changed ["_law_deck_here", "_law_tree_here"] (defScope s__law_changed) := ⟨rfl, rfl, rfl, by decide +kernel, rfl, by decide +kernel, by decide +kernel⟩
noncomputable def G__law_changed : Rho → M Out :=
  (gSeq (gPar3 7 8 9 (argC (callF F__law_draw 2 (argC (slot 0) (argC (bin (pAdd false) (callV bLen (argC (slot 1) argN)) (con (.int 1))) argN))) (argC (callF F__law_draw 2 (argC (slot 0) (argC (con (.int 2)) argN))) (argC (callF F__law_odd 1 (argC (slot 0) argN)) argN))))
  (gSeq (gSet 2 (bin pIx (bin (pAdd false) (slot 1) (tupV (argC (tupV (argC (con (.int 0)) (argC (bin pPow (con (.int 10)) (con (.int 6))) argN))) argN))) (slot 7)))
  (gSeq (gSet 3 (bin pIx (lstV false (argC (slot 9) (argC (bin pIx (lstV false (argC (bin (pAdd false) (slot 7) (con (.int 1))) (argC (bin (pAdd false) (bin pPow (con (.int 10)) (con (.int 6))) (con (.int 1))) argN))) (slot 8)) (argC (bin pIx (lstV false (argC (negV (con (.int 1))) (argC (con (.int 0)) argN))) (slot 8)) (argC (bin pIx (slot 2) (bin pSub (con (.int 1)) (slot 8))) argN))))) (callF F__law_draw 2 (argC (slot 0) (argC (con (.int 4)) argN)))))
  (gSeq (gSet 4 (lstV false (argC (bin (pAdd false) (bin (pAdd false) (slV false (slot 2) noPart (aPart (slot 8))) (tupV (argC (slot 3) argN))) (slV false (slot 2) (aPart (bin (pAdd false) (slot 8) (con (.int 1)))) noPart)) (argC (revTV (slot 2)) (argC (callV (bList false) (argC (slot 2) argN)) (argC (slV false (slot 2) noPart (aPart (con (.int 1)))) (argC (bin (pAdd false) (slot 2) (tupV (argC (con (.int 1)) argN))) (argC (slot 9) argN))))))))
  (gSeq (gSet 5 (bin pIx (bin (pAdd false) (bin (pMul false) (slV false (slot 4) noPart (aPart (con (.int 1)))) (con (.int 3))) (slot 4)) (callF F__law_draw 2 (argC (slot 0) (argC (con (.int 9)) argN)))))
  (gSeq (gPar3 10 11 12 (argC (slV false (slot 1) noPart (aPart (slot 7))) (argC (slV false (slot 1) (aPart (bin (pAdd false) (slot 7) (con (.int 1)))) noPart) (argC (bin (pAdd false) (slot 1) (bin pMulT (tupV (argC (tupV (argC (con (.int 0)) (argC (con (.int 1)) argN))) argN)) (con (.int 12)))) argN))))
  (gSeq (gSet 6 (lstV false (argC (bin (pAdd false) (bin (pAdd false) (slot 10) (tupV (argC (slot 5) argN))) (slot 11)) (argC (bin (pAdd false) (bin (pAdd false) (slot 10) (tupV (argC (slot 5) argN))) (slV false (slot 1) (aPart (slot 7)) noPart)) (argC (bin (pAdd false) (slot 10) (slot 11)) (argC (revTV (slot 1)) argN))))))
  (gSeq (gSet 6 (bin (pAdd false) (slot 6) (lstV false (argC (callV (bList false) (argC (slot 1) argN)) (argC (tupV (argC (slot 1) argN)) (argC (slot 9) (argC (slV false (slot 12) noPart (aPart (con (.int 11)))) (argC (slV false (slot 12) noPart (aPart (con (.int 12)))) argN))))))))
  (gRet (bin pIx (slot 6) (callV bMax2 (argC (con (.int 0)) (argC (bin pSub (callF F__law_draw 2 (argC (slot 0) (argC (con (.int 12)) argN))) (con (.int 3))) argN)))))))))))))
noncomputable def F__law_changed : List Sv → M Sv := strip 13 G__law_changed
theorem ok__law_changed (T : Top mg) {f : Addr} {fd : FuncData} (F : Fun K "_law_changed" "_law_changed" s__law_changed f fd) {f__law_draw : Addr} {fd__law_draw : FuncData} (F_law_draw : Fun K "_law_draw" "_law_draw" s__law_draw f__law_draw fd__law_draw) (g__law_draw : mg "_law_draw" = some (.ref f__law_draw)) (b__law_draw : Binds K fd__law_draw ["_law_deck_here", "_law_limit"] []) (C__law_draw : Gk P w K mg base (L2.CX P w) 1 f__law_draw fd__law_draw ["_law_deck_here", "_law_limit"] (spM K 2 F__law_draw)) {f__law_odd : Addr} {fd__law_odd : FuncData} (F_law_odd : Fun K "_law_odd" "_law_odd" s__law_odd f__law_odd fd__law_odd) (g__law_odd : mg "_law_odd" = some (.ref f__law_odd)) (b__law_odd : Binds K fd__law_odd ["_law_deck_here"] []) (C__law_odd : Gk P w K mg base (L2.CX P w) 2 f__law_odd fd__law_odd ["_law_deck_here"] (spM K 1 F__law_odd)) : Gk P w K mg base (L2.CX P w) 3 f fd ["_law_deck_here", "_law_tree_here"] (spM K 2 F__law_changed) := by
  refine gk_strip (k := 2) (l := 13) F sc__law_changed rfl rfl G__law_changed (fun cdv A below s H E hg hr => ?_)
  have nd : N__law_changed.Nodup := sc__law_changed.nd
  have hx : Passes (L2.CX P w) (bx P w K mg base N__law_changed "_law_changed" s__law_changed f cdv A below s H E) E := bx_pass
  have ho : PassesOwn (model P w) (bx P w K mg base N__law_changed "_law_changed" s__law_changed f cdv A below s H E).A (bx P w K mg base N__law_changed "_law_changed" s__law_changed f cdv A below s H E).env (bx P w K mg base N__law_changed "_law_changed" s__law_changed f cdv A below s H E).xe := bx_own
  exact (q_cons (s_par3 7 8 9 rfl nd (a_cons (x_call1 C__law_draw hg hr g__law_draw F_law_draw.kp b__law_draw hx (a_cons (x_name 0) (a_cons (x_bin o_add (x_callB b_len rfl T.m_len PySem.boot_len (a_cons (x_name 1) a_nil)) x_int) a_nil))) (a_cons (x_call1 C__law_draw hg hr g__law_draw F_law_draw.kp b__law_draw hx (a_cons (x_name 0) (a_cons x_int a_nil))) (a_cons (x_call1 C__law_odd hg hr g__law_odd F_law_odd.kp b__law_odd hx (a_cons (x_name 0) a_nil)) a_nil))) (by first | rfl | with_unfolding_all rfl))
  (q_cons (s_set 2 nd (x_ix o_ix (x_bin o_add (x_name 1) (x_tup (a_cons (x_tup (a_cons x_int (a_cons (x_bin o_pow x_int x_int) a_nil))) a_nil))) (x_name 7)))
  (q_cons (s_set 3 nd (x_ix o_ix (x_lst false (a_cons (x_name 9) (a_cons (x_ix o_ix (x_lst false (a_cons (x_bin o_add (x_name 7) x_int) (a_cons (x_bin o_add (x_bin o_pow x_int x_int) x_int) a_nil))) (x_name 8)) (a_cons (x_ix o_ix (x_lst false (a_cons (x_ng x_int) (a_cons x_int a_nil))) (x_name 8)) (a_cons (x_ix o_ix (x_name 2) (x_bin o_sub x_int (x_name 8))) a_nil))))) (x_call1 C__law_draw hg hr g__law_draw F_law_draw.kp b__law_draw hx (a_cons (x_name 0) (a_cons x_int a_nil)))))
  (q_cons (s_set 4 nd (x_lst false (a_cons (x_bin o_add (x_bin o_add (x_slice false (x_name 2) o_none (o_some (x_name 8))) (x_tup (a_cons (x_name 3) a_nil))) (x_slice false (x_name 2) (o_some (x_bin o_add (x_name 8) x_int)) o_none)) (a_cons (x_revT (x_name 2)) (a_cons (x_callTy b_list rfl T.m_list (by decide +kernel) (a_cons (x_name 2) a_nil)) (a_cons (x_slice false (x_name 2) o_none (o_some x_int)) (a_cons (x_bin o_add (x_name 2) (x_tup (a_cons x_int a_nil))) (a_cons (x_name 9) a_nil))))))))
  (q_cons (s_set 5 nd (x_ix o_ix (x_bin o_add (x_bin o_mul (x_slice false (x_name 4) o_none (o_some x_int)) x_int) (x_name 4)) (x_call1 C__law_draw hg hr g__law_draw F_law_draw.kp b__law_draw hx (a_cons (x_name 0) (a_cons x_int a_nil)))))
  (q_cons (s_par3 10 11 12 rfl nd (a_cons (x_slice false (x_name 1) o_none (o_some (x_name 7))) (a_cons (x_slice false (x_name 1) (o_some (x_bin o_add (x_name 7) x_int)) o_none) (a_cons (x_bin o_add (x_name 1) (x_bin o_mulT (x_tup (a_cons (x_tup (a_cons x_int (a_cons x_int a_nil))) a_nil)) x_int)) a_nil))) (by first | rfl | with_unfolding_all rfl))
  (q_cons (s_set 6 nd (x_lst false (a_cons (x_bin o_add (x_bin o_add (x_name 10) (x_tup (a_cons (x_name 5) a_nil))) (x_name 11)) (a_cons (x_bin o_add (x_bin o_add (x_name 10) (x_tup (a_cons (x_name 5) a_nil))) (x_slice false (x_name 1) (o_some (x_name 7)) o_none)) (a_cons (x_bin o_add (x_name 10) (x_name 11)) (a_cons (x_revT (x_name 1)) a_nil))))))
  (q_cons (s_set 6 nd (x_bin o_add (x_name 6) (x_lst false (a_cons (x_callTy b_list rfl T.m_list (by decide +kernel) (a_cons (x_name 1) a_nil)) (a_cons (x_tup (a_cons (x_name 1) a_nil)) (a_cons (x_name 9) (a_cons (x_slice false (x_name 12) o_none (o_some x_int)) (a_cons (x_slice false (x_name 12) o_none (o_some x_int)) a_nil))))))))
  (q_one (s_ret (x_ix o_ix (x_name 6) (x_callB b_max2 rfl T.m_max (by decide +kernel) (a_cons x_int (a_cons (x_bin o_sub (x_call1 C__law_draw hg hr g__law_draw F_law_draw.kp b__law_draw hx (a_cons (x_name 0) (a_cons x_int a_nil))) x_int) a_nil))))))))))))))
theorem pick2 {j : Int} (h0 : 0 ≤ j) (h1 : j < 2) (a b : PyData) : ∃ x, (x = a ∨ x = b) ∧ atI [a, b] j = some x := by
  rcases two h0 h1 with rfl | rfl
  · exact ⟨a, .inl rfl, atI_0 _ _⟩
  · exact ⟨b, .inr rfl, atI_1 _ _ _⟩
theorem cut_1 {α : Type} (x : α) (r : List α) : cutL (x :: r) none (some 1) = [x] := by
  unfold cutL
  rw [HT.sIx_none]
  show ((x :: r).drop 0).take (HT.sIx (x :: r).length (x :: r).length (some ((1 : Nat) : Int)) - 0) = [x]
  rw [HT.sIx_nat, List.drop_zero, List.length_cons]
  have : min 1 (r.length + 1) - 0 = 1 := by omega
  first
    | rw [this]; rfl
    | (rw [Nat.min_eq_left (by omega)]; rfl)
theorem some_mem {n k : Nat} {xs : List PyData} {i : Int} (h : ∀ d ∈ xs, Some' d n k) (h0 : 0 ≤ i) (h1 : i < xs.length) : ∃ x, Some' x n k ∧ atI xs i = some x := by
  obtain ⟨x, hx, e⟩ := atI_mem h0 h1
  exact ⟨x, h x hx, e⟩
/-- a tuple of plain items with one more that is of a kind -/
theorem va_mid {as bs : List PyData} {x : PyData} {n k m l : Nat} (ha : ∀ d ∈ as, ∀ c, Va c d n k) (hb : ∀ d ∈ bs, ∀ c, Va c d n k) (hx : Some' x n k) (hl : as.length + 1 + bs.length ≤ l) (hm : (n + 2) * l + 3 ≤ m) : Some' (.tuple (as ++ [x] ++ bs)) m (k + 1) := by
  obtain ⟨c, hx⟩ := hx
  refine ⟨c, (Va.tuple (n := n) (k := k) fun d hd => ?_).up ?_ (Nat.le_refl _)⟩
  · rcases List.mem_append.mp hd with hd | hd
    · rcases List.mem_append.mp hd with hd | hd
      · exact ha d hd c
      · rw [List.mem_singleton.mp hd]
        exact hx
    · exact hb d hd c
  · have : (as ++ [x] ++ bs).length ≤ l := by
      rw [List.length_append, List.length_append, List.length_singleton]
      exact hl
    exact Nat.le_trans (Nat.add_le_add_right (Nat.mul_le_mul_left _ this) 3) hm
theorem va_all {as : List PyData} {n k m l : Nat} (ha : ∀ d ∈ as, ∀ c, Va c d n k) (hl : as.length ≤ l) (hm : (n + 2) * l + 3 ≤ m) : Some' (.tuple as) m (k + 1) :=
  ⟨false, (Va.tuple (n := n) (k := k) fun d hd => ha d hd false).up (Nat.le_trans (Nat.add_le_add_right (Nat.mul_le_mul_left _ hl) 3) hm) (Nat.le_refl _)⟩
abbrev chS (rows : List (Int × Int)) (p j : Int) (sg : PyData) (o2 o3 o4 o5 o6 o10 o11 o12 : Option Sv) : Rho := [some (.ref 1), some (.dat (treeD rows)), o2, o3, o4, o5, o6, some (svI p), some (svI j), some (.dat sg), o10, o11, o12]
theorem changed_ok {n : Int} {μ : Mu} {rows : List (Int × Int)} (D : Deck n [] μ) (h0 : 0 ≤ n) (h1 : n < 10 ^ 9) (ok : TreeOk rows) (hl : rows.length ≤ 11) :
    ∃ d μ', F__law_changed [.ref 1, .dat (treeD rows)] μ = some (.ok (.dat d) μ') ∧ Some' d 30000 8 ∧ Deck (n + 6) [] μ' := by
  have hR : (rows.map rowD).length = rows.length := List.length_map ..
  have vR : ∀ d ∈ rows.map rowD, ∀ c, Va c d 95 1 := fun d hd c => va_rows ok hl d hd
  obtain ⟨p, μ1, e1, p0, p1, D1⟩ := draw_ok D h0 (by omega) (L := ((rows.map rowD).length : Int) + 1) (by omega) (by omega)
  obtain ⟨j, μ2, e2, j0, j1, D2⟩ := draw_ok D1 (by omega) (by omega) (L := 2) (by omega) (by omega)
  obtain ⟨sg, μ3, e3, vs, D3⟩ := odd_ok D2 (by omega) (by omega)
  obtain ⟨q, μ4, e4, q0, q1, D4⟩ := draw_ok D3 (by omega) (by omega) (L := 4) (by omega) (by omega)
  obtain ⟨u, μ5, e5, u0, u1, D5⟩ := draw_ok D4 (by omega) (by omega) (L := 9) (by omega) (by omega)
  obtain ⟨w, μ6, e6, w0, w1, D6⟩ := draw_ok D5 (by omega) (by omega) (L := 12) (by omega) (by omega)
  have D7 : Deck (n + 6) [] μ6 := by
    have : n + 6 = n + 1 + 1 + 1 + 1 + 1 + 1 := by omega
    rw [this]
    exact D6
  -- the row
  obtain ⟨r, hr, er⟩ := atI_mem (xs := rows ++ [(0, 1000000)]) p0 (by rw [List.length_append, List.length_singleton]; omega)
  have br : (0 ≤ r.1 ∧ r.1 ≤ 1000) ∧ 1 ≤ r.2 ∧ r.2 ≤ 1000000 := by
    rcases List.mem_append.mp hr with z | z
    · have := ok.at_ z
      omega
    · rw [List.mem_singleton.mp z]
      decide
  have er2 : atI (rows.map rowD ++ [rowD (0, 1000000)]) p = some (rowD r) := by
    have := atI_map (f := rowD) er
    rwa [List.map_append] at this
  have vi : ∀ d ∈ [PyData.int r.1, .int r.2], ∀ c, Va c d 110 3 := fun d hd c => by
    rcases List.mem_cons.mp hd with rfl | hd
    · exact (Va.int (Nat.lt_trans (show r.1.natAbs < 10000000 by omega) (by decide +kernel))).up (by decide) (by decide)
    · rw [List.mem_singleton.mp hd]
      exact (Va.int (Nat.lt_trans (show r.2.natAbs < 10000000 by omega) (by decide +kernel))).up (by decide) (by decide)
  -- the part
  obtain ⟨x2, hx2, a2⟩ := pick2 j0 j1 (.int (p + 1)) (.int 1000001)
  obtain ⟨x3, hx3, a3⟩ := pick2 j0 j1 (.int (-1)) (.int 0)
  obtain ⟨x4, hx4, a4⟩ := pick2 (j := 1 - j) (by omega) (by omega) (.int r.1) (.int r.2)
  have vI : ∀ {i : Int}, i.natAbs < 100000000 → Some' (.int i) 110 3 := fun h => ⟨false, (Va.int (Nat.lt_trans h (by decide +kernel))).up (by decide) (by decide)⟩
  have v4 : ∀ d ∈ [sg, x2, x3, x4], Some' d 110 3 := fun d hd => by
    rcases List.mem_cons.mp hd with rfl | hd
    · exact vs
    · rcases List.mem_cons.mp hd with rfl | hd
      · rcases hx2 with rfl | rfl
        · exact vI (by omega)
        · exact vI (by omega)
      · rcases List.mem_cons.mp hd with rfl | hd
        · rcases hx3 with rfl | rfl
          · exact vI (by omega)
          · exact vI (by omega)
        · rw [List.mem_singleton.mp hd]
          rcases hx4 with rfl | rfl
          · exact vI (by omega)
          · exact vI (by omega)
  obtain ⟨part, vp, ap⟩ := some_mem v4 q0 (show q < ((4 : Nat) : Int) from q1)
  -- the bent rows
  let its : List PyData := [.int r.1, .int r.2]
  let b1 : PyData := .tuple (cutL its none (some j) ++ [part] ++ cutL its (some (j + 1)) none)
  let bents : List PyData := [b1, .tuple its.reverse, .list its, .tuple (cutL its none (some 1)), .tuple (its ++ [.int 1]), sg]
  have l2 : ∀ lo hi, (cutL its lo hi).length ≤ 2 := fun lo hi => len_cut
  have vb : ∀ d ∈ [b1, b1, b1] ++ bents, Some' d 1000 4 := by
    have vb1 : Some' b1 1000 4 := va_mid (l := 5) (fun d hd => vi d (mem_cut hd)) (fun d hd => vi d (mem_cut hd)) vp (by have := l2 none (some j); have := l2 (some (j + 1)) none; omega) (by decide)
    have rest : ∀ d ∈ bents, Some' d 1000 4 := fun d hd => by
      rcases List.mem_cons.mp hd with rfl | hd
      · exact vb1
      · rcases List.mem_cons.mp hd with rfl | hd
        · exact va_all (l := 2) (fun d hd => vi d (List.mem_reverse.mp hd)) (by simp [its]) (by decide)
        · rcases List.mem_cons.mp hd with rfl | hd
          · exact ⟨false, (Va.list (n := 110) (k := 3) fun d hd => vi d hd false).up (by simp [its]) (by decide)⟩
          · rcases List.mem_cons.mp hd with rfl | hd
            · exact va_all (l := 2) (fun d hd => vi d (mem_cut hd)) (l2 _ _) (by decide)
            · rcases List.mem_cons.mp hd with rfl | hd
              · refine va_all (l := 3) (n := 110) (k := 3) (fun d hd c => ?_) (by simp [its]) (by decide)
                rcases List.mem_append.mp hd with hd | hd
                · exact vi d hd c
                · rw [List.mem_singleton.mp hd]
                  exact (Va.int (by decide +kernel)).up (by decide) (by decide)
              · rw [List.mem_singleton.mp hd]
                obtain ⟨c, z⟩ := vs
                exact ⟨c, z.up (by decide) (by decide)⟩
    intro d hd
    rcases List.mem_append.mp hd with hd | hd
    · have : d = b1 := by
        rcases List.mem_cons.mp hd with z | hd
        · exact z
        · rcases List.mem_cons.mp hd with z | hd
          · exact z
          · exact List.mem_singleton.mp hd
      rw [this]
      exact vb1
    · exact rest d hd
  obtain ⟨new, vn, an⟩ := some_mem vb u0 (show u < ((9 : Nat) : Int) from u1)
  -- the values
  let R : List PyData := rows.map rowD
  let hd' : List PyData := cutL R none (some p)
  let tl : List PyData := cutL R (some (p + 1)) none
  let more : List PyData := R ++ (List.replicate (12 : Int).toNat [rowD (0, 1)]).flatten
  let some1 : List PyData := [.tuple (hd' ++ [new] ++ tl), .tuple (hd' ++ [new] ++ cutL R (some p) none), .tuple (hd' ++ tl), .tuple R.reverse]
  let some2 : List PyData := [.list R, .tuple [treeD rows], sg, .tuple (cutL more none (some 11)), .tuple (cutL more none (some 12))]
  have lR : R.length ≤ 11 := by rw [show R.length = rows.length from hR]; exact hl
  have vR2 : ∀ d ∈ R, ∀ c, Va c d 1000 4 := fun d hd c => (vR d hd c).up (by decide) (by decide)
  have vM : ∀ d ∈ more, ∀ c, Va c d 1000 4 := fun d hd c => by
    rcases List.mem_append.mp hd with hd | hd
    · exact vR2 d hd c
    · have : d = rowD (0, 1) := by
        obtain ⟨l, h1, h2⟩ := List.mem_flatten.mp hd
        rw [(List.mem_replicate.mp h1).2] at h2
        exact List.mem_singleton.mp h2
      rw [this]
      exact (va_row (by decide) (by decide)).up (by decide) (by decide)
  have lc : ∀ lo hi, (cutL R lo hi).length ≤ 11 := fun lo hi => Nat.le_trans len_cut lR
  have lh : hd'.length ≤ 11 := lc _ _
  have lt : tl.length ≤ 11 := lc _ _
  have l3 := lc (some p) none
  have up : ∀ {d : PyData} {k : Nat}, k ≤ 8 → Some' d 30000 k → Some' d 30000 8 := fun hk ⟨c, z⟩ => ⟨c, z.up (Nat.le_refl _) hk⟩
  have vv : ∀ d ∈ some1 ++ some2, Some' d 30000 8 := fun d hd => by
    rcases List.mem_append.mp hd with hd | hd
    · rcases List.mem_cons.mp hd with rfl | hd
      · exact up (by decide) (va_mid (l := 23) (fun d hd => vR2 d (mem_cut hd)) (fun d hd => vR2 d (mem_cut hd)) vn (by omega) (by decide))
      · rcases List.mem_cons.mp hd with rfl | hd
        · exact up (by decide) (va_mid (l := 23) (fun d hd => vR2 d (mem_cut hd)) (fun d hd => vR2 d (mem_cut hd)) vn (by omega) (by decide))
        · rcases List.mem_cons.mp hd with rfl | hd
          · refine up (k := 5) (by decide) (va_all (l := 22) (n := 1000) (k := 4) (fun d hd c => ?_) (by rw [List.length_append]; omega) (by decide))
            rcases List.mem_append.mp hd with hd | hd
            · exact vR2 d (mem_cut hd) c
            · exact vR2 d (mem_cut hd) c
          · rw [List.mem_singleton.mp hd]
            exact up (k := 5) (by decide) (va_all (l := 11) (fun d hd => vR2 d (List.mem_reverse.mp hd)) (by rw [List.length_reverse]; exact lR) (by decide))
    · rcases List.mem_cons.mp hd with rfl | hd
      · refine ⟨false, (Va.list (n := 1000) (k := 4) fun d hd => vR2 d hd false).up ?_ (by decide)⟩
        have : (1000 + 2) * R.length ≤ (1000 + 2) * 11 := Nat.mul_le_mul_left _ lR
        omega
      · rcases List.mem_cons.mp hd with rfl | hd
        · refine up (k := 3) (by decide) (va_all (l := 1) (n := 2000) (k := 2) (fun d hd c => ?_) (by show 1 ≤ 1; decide) (by decide))
          rw [List.mem_singleton.mp hd]
          refine (Va.tuple (n := 95) (k := 1) fun d hd => vR d hd c).up ?_ (Nat.le_refl _)
          omega
        · rcases List.mem_cons.mp hd with rfl | hd
          · obtain ⟨c, z⟩ := vs
            exact ⟨c, z.up (by decide) (by decide)⟩
          · rcases List.mem_cons.mp hd with rfl | hd
            · exact up (k := 5) (by decide) (va_all (l := 11) (fun d hd => vM d (mem_cut hd)) (len_hi (k := 11)) (by decide))
            · rw [List.mem_singleton.mp hd]
              exact up (k := 5) (by decide) (va_all (l := 12) (fun d hd => vM d (mem_cut hd)) (len_hi (k := 12)) (by decide))
  obtain ⟨val, vval, av⟩ := some_mem (i := if w - 3 > 0 then w - 3 else 0) vv (by split <;> omega) (show (if w - 3 > 0 then w - 3 else 0) < ((9 : Nat) : Int) by split <;> omega)
  refine ⟨val, μ6, strip_rt ?_, vval, D7⟩
  show G__law_changed [some (.ref 1), some (.dat (treeD rows)), none, none, none, none, none, none, none, none, none, none, none] μ = _
  unfold G__law_changed
  rw [seq_at (ρ' := chS rows p j sg none none none none none none none none) (μ' := μ3) (par3_at (args_c ((call2_at rfl rfl).trans e1) (args_c ((call2_at rfl rfl).trans e2) (args_c ((call1_at rfl).trans e3) args_n))))]
  have s2 : ∀ o3 o4 o5 o6 o10 o11 o12, bin pIx (bin (pAdd false) (slot 1) (tupV (argC (tupV (argC (con (.int 0)) (argC (bin pPow (con (.int 10)) (con (.int 6))) argN))) argN))) (slot 7) (chS rows p j sg none o3 o4 o5 o6 o10 o11 o12) μ3 = some (.ok (.dat (rowD r)) μ3) := fun o3 o4 o5 o6 o10 o11 o12 => by
    rw [bin_at (μ1 := μ3) (μ2 := μ3) (a := .dat (.tuple (rows.map rowD ++ [rowD (0, 1000000)]))) (b := svI p) ((bin_at (b := .dat (.tuple [rowD (0, 1000000)])) (show slot 1 _ μ3 = some (.ok (.dat (treeD rows)) μ3) from rfl) rfl).trans (tcat_at (by rw [List.length_map, List.length_singleton]; omega) μ3)) rfl]
    exact tix_at er2 μ3
  rw [seq_at (ρ' := chS rows p j sg (some (.dat (rowD r))) none none none none none none none) (μ' := μ3) (gset_at (s2 _ _ _ _ _ _ _))]
  have s3 : (gSet 3 (bin pIx (lstV false (argC (slot 9) (argC (bin pIx (lstV false (argC (bin (pAdd false) (slot 7) (con (.int 1))) (argC (bin (pAdd false) (bin pPow (con (.int 10)) (con (.int 6))) (con (.int 1))) argN))) (slot 8)) (argC (bin pIx (lstV false (argC (negV (con (.int 1))) (argC (con (.int 0)) argN))) (slot 8)) (argC (bin pIx (slot 2) (bin pSub (con (.int 1)) (slot 8))) argN))))) (callF F__law_draw 2 (argC (slot 0) (argC (con (.int 4)) argN))))) (chS rows p j sg (some (.dat (rowD r))) none none none none none none none) μ3 =
      some (.ok (.nx (chS rows p j sg (some (.dat (rowD r))) (some (.dat part)) none none none none none none)) μ4) := by
    refine gset_at ?_
    rw [bin_at (μ1 := μ3) (μ2 := μ4) (a := .dat (.list [sg, x2, x3, x4])) (b := svI q) (lst_at [sg, x2, x3, x4] (args_c (show slot 9 _ μ3 = some (.ok (.dat sg) μ3) from rfl)
      (args_c ((bin_at (lst_at [.int (p + 1), .int 1000001] (args_c (a := svI (p + 1)) rfl (args_c (a := svI 1000001) rfl args_n)) rfl (by show 2 ≤ 1000000; decide)) (show slot 8 _ μ3 = some (.ok (svI j) μ3) from rfl)).trans (lix_at a2 μ3))
      (args_c ((bin_at (lst_at [.int (-1), .int 0] (args_c (a := svI (-1)) rfl (args_c (a := svI 0) rfl args_n)) rfl (by show 2 ≤ 1000000; decide)) (show slot 8 _ μ3 = some (.ok (svI j) μ3) from rfl)).trans (lix_at a3 μ3))
      (args_c ((bin_at (show slot 2 _ μ3 = some (.ok (.dat (rowD r)) μ3) from rfl) (show bin pSub (con (.int 1)) (slot 8) _ μ3 = some (.ok (svI (1 - j)) μ3) from rfl)).trans (tix_at a4 μ3)) args_n)))) rfl (by show 4 ≤ 1000000; decide)) ((call2_at rfl rfl).trans e4)]
    exact lix_at ap μ4
  rw [seq_at s3]
  have s4 : (gSet 4 (lstV false (argC (bin (pAdd false) (bin (pAdd false) (slV false (slot 2) noPart (aPart (slot 8))) (tupV (argC (slot 3) argN))) (slV false (slot 2) (aPart (bin (pAdd false) (slot 8) (con (.int 1)))) noPart)) (argC (revTV (slot 2)) (argC (callV (bList false) (argC (slot 2) argN)) (argC (slV false (slot 2) noPart (aPart (con (.int 1)))) (argC (bin (pAdd false) (slot 2) (tupV (argC (con (.int 1)) argN))) (argC (slot 9) argN)))))))) (chS rows p j sg (some (.dat (rowD r))) (some (.dat part)) none none none none none none) μ4 =
      some (.ok (.nx (chS rows p j sg (some (.dat (rowD r))) (some (.dat part)) (some (.dat (.list bents))) none none none none none)) μ4) := by
    refine gset_at (lst_at bents (args_c ?_ (args_c (a := .dat (.tuple its.reverse)) rfl (args_c (a := .dat (.list its)) rfl (args_c (sl_hi rfl rfl) (args_c (a := .dat (.tuple (its ++ [.int 1]))) rfl (args_c (show slot 9 _ μ4 = some (.ok (.dat sg) μ4) from rfl) args_n)))))) rfl (by show 6 ≤ 1000000; decide))
    have c1 : bin (pAdd false) (slV false (slot 2) noPart (aPart (slot 8))) (tupV (argC (slot 3) argN)) (chS rows p j sg (some (.dat (rowD r))) (some (.dat part)) none none none none none none) μ4 = some (.ok (.dat (.tuple (cutL its none (some j) ++ [part]))) μ4) := by
      rw [bin_at (sl_hi (ds := its) (i := j) rfl rfl) (tup_at [part] (args_c (show slot 3 _ μ4 = some (.ok (.dat part) μ4) from rfl) args_n) rfl (by show 1 ≤ 1000000; decide))]
      exact tcat_at (by have := l2 none (some j); rw [List.length_singleton]; omega) μ4
    rw [bin_at c1 (sl_lo (ds := its) (i := j + 1) rfl rfl)]
    exact tcat_at (by have := l2 none (some j); have := l2 (some (j + 1)) none; rw [List.length_append, List.length_singleton]; omega) μ4
  rw [seq_at s4]
  have s5 : (gSet 5 (bin pIx (bin (pAdd false) (bin (pMul false) (slV false (slot 4) noPart (aPart (con (.int 1)))) (con (.int 3))) (slot 4)) (callF F__law_draw 2 (argC (slot 0) (argC (con (.int 9)) argN))))) (chS rows p j sg (some (.dat (rowD r))) (some (.dat part)) (some (.dat (.list bents))) none none none none none) μ4 =
      some (.ok (.nx (chS rows p j sg (some (.dat (rowD r))) (some (.dat part)) (some (.dat (.list bents))) (some (.dat new)) none none none none)) μ5) := by
    refine gset_at ?_
    have c1 : slV false (slot 4) noPart (aPart (con (.int 1))) (chS rows p j sg (some (.dat (rowD r))) (some (.dat part)) (some (.dat (.list bents))) none none none none none) μ4 = some (.ok (.dat (.list [b1])) μ4) := by
      have z : cutL (bents.map Sv.dat) none (some 1) = [Sv.dat b1] := cut_1 _ _
      show M.bind (lsOf (.dat (.list bents))) (fun xs => mkl false (cutL xs none (some 1))) μ4 = _
      rw [bind_ok (show lsOf (.dat (.list bents)) μ4 = some (.ok (bents.map Sv.dat) μ4) from rfl), z]
      rfl
    have c2 : bin (pMul false) (slV false (slot 4) noPart (aPart (con (.int 1)))) (con (.int 3)) (chS rows p j sg (some (.dat (rowD r))) (some (.dat part)) (some (.dat (.list bents))) none none none none none) μ4 = some (.ok (.dat (.list [b1, b1, b1])) μ4) := by
      rw [bin_at c1 (show con (.int 3) _ μ4 = some (.ok (svI 3) μ4) from rfl)]
      rfl
    rw [bin_at ((bin_at c2 (show slot 4 _ μ4 = some (.ok (.dat (.list bents)) μ4) from rfl)).trans (cat_at (by show 3 + 6 ≤ 1000000; decide) μ4)) ((call2_at rfl rfl).trans e5)]
    exact lix_at an μ5
  rw [seq_at s5]
  have s6 : (gPar3 10 11 12 (argC (slV false (slot 1) noPart (aPart (slot 7))) (argC (slV false (slot 1) (aPart (bin (pAdd false) (slot 7) (con (.int 1)))) noPart) (argC (bin (pAdd false) (slot 1) (bin pMulT (tupV (argC (tupV (argC (con (.int 0)) (argC (con (.int 1)) argN))) argN)) (con (.int 12)))) argN)))) (chS rows p j sg (some (.dat (rowD r))) (some (.dat part)) (some (.dat (.list bents))) (some (.dat new)) none none none none) μ5 =
      some (.ok (.nx (chS rows p j sg (some (.dat (rowD r))) (some (.dat part)) (some (.dat (.list bents))) (some (.dat new)) none (some (.dat (.tuple hd'))) (some (.dat (.tuple tl))) (some (.dat (.tuple more))))) μ5) := by
    refine par3_at (args_c (sl_hi (ds := R) (i := p) rfl rfl) (args_c (sl_lo (ds := R) (i := p + 1) rfl rfl) (args_c ?_ args_n)))
    rw [bin_at (show slot 1 _ μ5 = some (.ok (.dat (.tuple R)) μ5) from rfl) (show bin pMulT (tupV (argC (tupV (argC (con (.int 0)) (argC (con (.int 1)) argN))) argN)) (con (.int 12)) _ μ5 = some (.ok (.dat (.tuple (List.replicate (12 : Int).toNat [rowD (0, 1)]).flatten)) μ5) from rfl)]
    exact tcat_at (by have : ((List.replicate (12 : Int).toNat [rowD (0, 1)]).flatten).length = 12 := rfl; omega) μ5
  rw [seq_at s6]
  have s7 : (gSet 6 (lstV false (argC (bin (pAdd false) (bin (pAdd false) (slot 10) (tupV (argC (slot 5) argN))) (slot 11)) (argC (bin (pAdd false) (bin (pAdd false) (slot 10) (tupV (argC (slot 5) argN))) (slV false (slot 1) (aPart (slot 7)) noPart)) (argC (bin (pAdd false) (slot 10) (slot 11)) (argC (revTV (slot 1)) argN)))))) (chS rows p j sg (some (.dat (rowD r))) (some (.dat part)) (some (.dat (.list bents))) (some (.dat new)) none (some (.dat (.tuple hd'))) (some (.dat (.tuple tl))) (some (.dat (.tuple more)))) μ5 =
      some (.ok (.nx (chS rows p j sg (some (.dat (rowD r))) (some (.dat part)) (some (.dat (.list bents))) (some (.dat new)) (some (.dat (.list some1))) (some (.dat (.tuple hd'))) (some (.dat (.tuple tl))) (some (.dat (.tuple more))))) μ5) := by
    have c1 : bin (pAdd false) (slot 10) (tupV (argC (slot 5) argN)) (chS rows p j sg (some (.dat (rowD r))) (some (.dat part)) (some (.dat (.list bents))) (some (.dat new)) none (some (.dat (.tuple hd'))) (some (.dat (.tuple tl))) (some (.dat (.tuple more)))) μ5 = some (.ok (.dat (.tuple (hd' ++ [new]))) μ5) := by
      rw [bin_at (show slot 10 _ μ5 = some (.ok (.dat (.tuple hd')) μ5) from rfl) (tup_at [new] (args_c (show slot 5 _ μ5 = some (.ok (.dat new) μ5) from rfl) args_n) rfl (by show 1 ≤ 1000000; decide))]
      exact tcat_at (by rw [List.length_singleton]; omega) μ5
    have lhn : (hd' ++ [new]).length ≤ 12 := by
      rw [List.length_append, List.length_singleton]
      omega
    refine gset_at (lst_at some1 (args_c ((bin_at c1 (show slot 11 _ μ5 = some (.ok (.dat (.tuple tl)) μ5) from rfl)).trans (tcat_at (by omega) μ5)) (args_c ((bin_at c1 (sl_lo (ds := R) (i := p) rfl rfl)).trans (tcat_at (by omega) μ5))
      (args_c ((bin_at (show slot 10 _ μ5 = some (.ok (.dat (.tuple hd')) μ5) from rfl) (show slot 11 _ μ5 = some (.ok (.dat (.tuple tl)) μ5) from rfl)).trans (tcat_at (by omega) μ5)) (args_c (a := .dat (.tuple R.reverse)) rfl args_n)))) rfl (by show 4 ≤ 1000000; decide))
  rw [seq_at s7]
  have s8 : (gSet 6 (bin (pAdd false) (slot 6) (lstV false (argC (callV (bList false) (argC (slot 1) argN)) (argC (tupV (argC (slot 1) argN)) (argC (slot 9) (argC (slV false (slot 12) noPart (aPart (con (.int 11)))) (argC (slV false (slot 12) noPart (aPart (con (.int 12)))) argN)))))))) (chS rows p j sg (some (.dat (rowD r))) (some (.dat part)) (some (.dat (.list bents))) (some (.dat new)) (some (.dat (.list some1))) (some (.dat (.tuple hd'))) (some (.dat (.tuple tl))) (some (.dat (.tuple more)))) μ5 =
      some (.ok (.nx (chS rows p j sg (some (.dat (rowD r))) (some (.dat part)) (some (.dat (.list bents))) (some (.dat new)) (some (.dat (.list (some1 ++ some2)))) (some (.dat (.tuple hd'))) (some (.dat (.tuple tl))) (some (.dat (.tuple more))))) μ5) := by
    refine gset_at ?_
    have c1 : callV (bList false) (argC (slot 1) argN) (chS rows p j sg (some (.dat (rowD r))) (some (.dat part)) (some (.dat (.list bents))) (some (.dat new)) (some (.dat (.list some1))) (some (.dat (.tuple hd'))) (some (.dat (.tuple tl))) (some (.dat (.tuple more)))) μ5 = some (.ok (.dat (.list R)) μ5) := by
      rw [callV1_at (show slot 1 _ μ5 = some (.ok (.dat (.tuple R)) μ5) from rfl)]
      exact mkl_dat R μ5
    rw [bin_at (show slot 6 _ μ5 = some (.ok (.dat (.list some1)) μ5) from rfl) (lst_at some2 (args_c c1 (args_c (tup_at [treeD rows] (args_c (show slot 1 _ μ5 = some (.ok (.dat (treeD rows)) μ5) from rfl) args_n) rfl (by show 1 ≤ 1000000; decide)) (args_c (show slot 9 _ μ5 = some (.ok (.dat sg) μ5) from rfl) (args_c (sl_hi (ds := more) (i := 11) rfl rfl) (args_c (sl_hi (ds := more) (i := 12) rfl rfl) args_n))))) rfl (by show 5 ≤ 1000000; decide))]
    exact cat_at (by show 4 + 5 ≤ 1000000; decide) μ5
  rw [seq_at s8]
  refine ret_gives ?_
  have c9 : callV bMax2 (argC (con (.int 0)) (argC (bin pSub (callF F__law_draw 2 (argC (slot 0) (argC (con (.int 12)) argN))) (con (.int 3))) argN)) (chS rows p j sg (some (.dat (rowD r))) (some (.dat part)) (some (.dat (.list bents))) (some (.dat new)) (some (.dat (.list (some1 ++ some2)))) (some (.dat (.tuple hd'))) (some (.dat (.tuple tl))) (some (.dat (.tuple more)))) μ5 = some (.ok (svI (if w - 3 > 0 then w - 3 else 0)) μ6) := by
    have z : argC (con (.int 0)) (argC (bin pSub (callF F__law_draw 2 (argC (slot 0) (argC (con (.int 12)) argN))) (con (.int 3))) argN) (chS rows p j sg (some (.dat (rowD r))) (some (.dat part)) (some (.dat (.list bents))) (some (.dat new)) (some (.dat (.list (some1 ++ some2)))) (some (.dat (.tuple hd'))) (some (.dat (.tuple tl))) (some (.dat (.tuple more)))) μ5 = some (.ok [svI 0, svI (w - 3)] μ6) := args_c rfl (args_c ((bin_at ((call2_at rfl rfl).trans e6) rfl).trans rfl) args_n)
    unfold callV
    rw [bind_ok z]
    rfl
  rw [bin_at (show slot 6 _ μ5 = some (.ok (.dat (.list (some1 ++ some2))) μ5) from rfl) c9]
  exact lix_at av μ6
/-! ### the law -/
abbrev s_law : Stmt := topS 19
abbrev N_law : List Str := ["_law_script", "_law_deck_here", "_law_turn", "_law_tree_here", "_law_values", "_law_value", "_law_before", "_law_due", "_law_k", "_law_again"]
theorem sc_law : FnScope N_law ["_law_script"] (defScope s_law) := ⟨rfl, rfl, rfl, by decide +kernel, rfl, by decide +kernel, by decide +kernel⟩
noncomputable def G_law : Rho → M Out :=
  (gSeq (gSet 1 (callF F__law_deck 1 (argC (slot 0) argN)))
  (gSeq (gFor (rngV (con (.int 8))) (gNm 2)
  (gSeq (gSet 3 (callF F__law_tree 2 (argC (slot 1) (argC (bin pIx (lstV false (argC (con (.int 12)) (argC (con (.int 3)) (argC (con (.int 6)) argN)))) (bin pMod (slot 2) (con (.int 3)))) argN))))
  (gSeq (gSet 4 (lstV false (argC (slot 3) (argC (callF F__law_twin 1 (argC (slot 3) argN)) (argC (slot 3) (argC (tupV argN) (argC (tupV (argC (tupV (argC (con (.int 0)) (argC (con (.int 1)) argN))) argN)) (argC (tupV (argC (tupV (argC (con (.int 0)) (argC (con (.bool true)) argN))) argN)) (argC (tupV (argC (tupV (argC (con (.bool false)) (argC (con (.int 1)) argN))) argN)) (argC (tupV (argC (tupV (argC (con (.int 0)) (argC (con (.int 1)) argN))) argN)) (argC (callF F__law_odd 1 (argC (slot 1) argN)) argN)))))))))))
  (gFor (seqV (bin (pAdd false) (slot 4) (lcV false [8] (rngV (con (.int 10))) (gNm 8) yes (callF F__law_changed 2 (argC (slot 1) (argC (slot 3) argN)))))) (gNm 5)
  (gSeq (gPar 6 7 (argC (callV bRepr (argC (slot 5) argN)) (argC (callF F__law_error 1 (argC (slot 5) argN)) argN)))
  (gSeq (gIf (notT (tst (callF F__law_same 2 (argC (lcV false [9] (rngV (con (.int 2))) (gNm 9) yes (callF F_tree_error 1 (argC (slot 5) argN))) (argC (lstV false (argC (slot 7) (argC (slot 7) argN))) argN)))))
  (gRet (con (.bool false)))
  gSkip)
  (gIf (orT (tst (bin pNe (callV bRepr (argC (callF F_is_tree 1 (argC (slot 5) argN)) argN)) (callV bRepr (argC (bin (pIs false) (slot 7) (con .none)) argN)))) (tst (bin pNe (callV bRepr (argC (slot 5) argN)) (slot 6))))
  (gRet (con (.bool false)))
  gSkip)))))))
  (gRet (con (.bool true)))))
noncomputable def F_law : List Sv → M Sv := strip 10 G_law
abbrev lawS (ns : List Int) (o2 o3 o4 o5 o6 o7 o8 o9 : Option Sv) : Rho := [some (.scr ns), some (.ref 1), o2, o3, o4, o5, o6, o7, o8, o9]
noncomputable abbrev valB : Rho → M Out := (gSeq (gPar 6 7 (argC (callV bRepr (argC (slot 5) argN)) (argC (callF F__law_error 1 (argC (slot 5) argN)) argN)))
  (gSeq (gIf (notT (tst (callF F__law_same 2 (argC (lcV false [9] (rngV (con (.int 2))) (gNm 9) yes (callF F_tree_error 1 (argC (slot 5) argN))) (argC (lstV false (argC (slot 7) (argC (slot 7) argN))) argN)))))
  (gRet (con (.bool false)))
  gSkip)
  (gIf (orT (tst (bin pNe (callV bRepr (argC (callF F_is_tree 1 (argC (slot 5) argN)) argN)) (callV bRepr (argC (bin (pIs false) (slot 7) (con .none)) argN)))) (tst (bin pNe (callV bRepr (argC (slot 5) argN)) (slot 6))))
  (gRet (con (.bool false)))
  gSkip)))
theorem err_small (d : PyData) : ∃ k : Nat, errD d = .none ∨ errD d = rowE k ∨ errD d = treeE := by
  cases d with
  | tuple ds =>
    by_cases h : decide ((11 : Int) < ds.length) = true
    · exact ⟨0, .inr (.inr (if_pos h))⟩
    · have he : errD (.tuple ds) = match errL ds 0 with
        | none => .none
        | some k => .tuple [.int (k : Nat), .str "row"] := if_neg h
      rw [he]
      cases errL ds 0 with
      | none => exact ⟨0, .inl rfl⟩
      | some k => exact ⟨k, .inr (.inl rfl)⟩
  | _ => exact ⟨0, .inr (.inr rfl)⟩
theorem errL_lt : ∀ (ds : List PyData) (k j : Nat), errL ds k = some j → j < k + ds.length
  | [], k, j, h => nomatch h
  | d :: r, k, j, h => by
    unfold errL at h
    by_cases q : rowB d k = true
    · rw [if_pos q] at h
      have := errL_lt r (k + 1) j h
      rw [List.length_cons]
      omega
    · rw [if_neg q] at h
      cases h
      rw [List.length_cons]
      omega
theorem err_fine (d : PyData) : Va false (errD d) 300 1 := by
  have tE : Va false treeE 300 1 := .of (by decide +kernel)
  cases d with
  | tuple ds =>
    by_cases h : (11 : Int) < ds.length
    · rw [show errD (.tuple ds) = treeE from if_pos (decide_eq_true h)]
      exact tE
    · have he : errD (.tuple ds) = match errL ds 0 with
        | none => .none
        | some k => .tuple [.int (k : Nat), .str "row"] := if_neg (by rw [decide_eq_false h]; exact Bool.false_ne_true)
      rw [he]
      cases q : errL ds 0 with
      | none => exact .of (by decide +kernel)
      | some k =>
        have := errL_lt ds 0 k q
        refine (Va.tuple (ds := [.int (k : Nat), .str "row"]) (n := 100) (k := 0) fun x hx => ?_).up (by show (100 + 2) * 2 + 3 ≤ 300; decide) (Nat.le_refl _)
        rcases List.mem_cons.mp hx with rfl | hx
        · exact (Va.int (Nat.lt_trans (show ((k : Nat) : Int).natAbs < 1000 by omega) (by decide +kernel))).up (by decide) (Nat.le_refl _)
        · rw [List.mem_singleton.mp hx]
          exact .of (by decide +kernel)
  | _ => exact tE
theorem val_turn {ns : List Int} {d : PyData} (hd : okShow d = true) (o2 o3 o4 o6 o7 o8 o9 : Option Sv) (μ : Mu) :
    valB (lawS ns o2 o3 o4 (some (.dat d)) o6 o7 o8 o9) μ = some (.ok (.nx (lawS ns o2 o3 o4 (some (.dat d)) (some (.dat (.str d.shown))) (some (.dat (errD d))) o8 o9)) μ) := by
  have fe := err_fine d
  have okB : ∀ b : Bool, okShow (.bool b) = true := fun b => by cases b <;> decide +kernel
  have q1 : (gPar 6 7 (argC (callV bRepr (argC (slot 5) argN)) (argC (callF F__law_error 1 (argC (slot 5) argN)) argN))) (lawS ns o2 o3 o4 (some (.dat d)) o6 o7 o8 o9) μ =
      some (.ok (.nx (lawS ns o2 o3 o4 (some (.dat d)) (some (.dat (.str d.shown))) (some (.dat (errD d))) o8 o9)) μ) := by
    refine par_at (repr_at (show slot 5 _ _ = some (.ok (.dat d) μ) from rfl) rfl hd) ?_
    rw [call1_at (show slot 5 _ _ = some (.ok (.dat d) μ) from rfl)]
    exact call_err d μ
  show gSeq _ _ _ _ = _
  rw [seq_at q1]
  have q2 : tst (callF F__law_same 2 (argC (lcV false [9] (rngV (con (.int 2))) (gNm 9) yes (callF F_tree_error 1 (argC (slot 5) argN))) (argC (lstV false (argC (slot 7) (argC (slot 7) argN))) argN))) (lawS ns o2 o3 o4 (some (.dat d)) (some (.dat (.str d.shown))) (some (.dat (errD d))) o8 o9) μ = some (.ok true μ) := by
    refine tst_at ?_
    rw [call2_at (twice (d := errD d) fun s => by
      rw [call1_at (show slot 5 _ _ = some (.ok (.dat d) μ) from rfl)]
      exact call_err d μ) (lst2_at (show slot 7 _ _ = some (.ok (.dat (errD d)) μ) from rfl) (show slot 7 _ _ = some (.ok (.dat (errD d)) μ) from rfl))]
    refine same_ok (((Va.list (ds := [errD d, errD d]) (n := 300) (k := 1) fun x hx => ?_).nice (by decide)).ok (by show (300 + 2) * 2 + 2 ≤ 1000000; decide)) rfl rfl
    rcases List.mem_cons.mp hx with rfl | hx
    · exact fe
    · rw [List.mem_singleton.mp hx]
      exact fe
  rw [seq_at (skip_at (not_at q2))]
  refine skip_at ?_
  have q3 : bin (pIs false) (slot 7) (con .none) (lawS ns o2 o3 o4 (some (.dat d)) (some (.dat (.str d.shown))) (some (.dat (errD d))) o8 o9) μ = some (.ok (.dat (.bool (nonB (errD d)))) μ) := by
    show some (Res.ok (Sv.dat (.bool (false ^^ isNon (.dat (errD d))))) μ) = _
    rw [Bool.false_xor]
    rfl
  have q4 : callF F_is_tree 1 (argC (slot 5) argN) (lawS ns o2 o3 o4 (some (.dat d)) (some (.dat (.str d.shown))) (some (.dat (errD d))) o8 o9) μ = some (.ok (.dat (.bool (nonB (errD d)))) μ) := by
    rw [call1_at (show slot 5 _ _ = some (.ok (.dat d) μ) from rfl)]
    exact call_is d μ
  have q5 : tst (bin pNe (callV bRepr (argC (callF F_is_tree 1 (argC (slot 5) argN)) argN)) (callV bRepr (argC (bin (pIs false) (slot 7) (con .none)) argN))) (lawS ns o2 o3 o4 (some (.dat d)) (some (.dat (.str d.shown))) (some (.dat (errD d))) o8 o9) μ = some (.ok false μ) := by
    refine tst_at ?_
    rw [bin_at (repr_at q4 rfl (okB _)) (repr_at q3 rfl (okB _))]
    exact ne_text
  rw [or_f q5]
  refine tst_at ?_
  rw [bin_at (repr_at (show slot 5 _ _ = some (.ok (.dat d) μ) from rfl) rfl hd) (show slot 6 _ _ = some (.ok (.dat (.str d.shown)) μ) from rfl)]
  exact ne_text
noncomputable abbrev chgF : Rho → M Sv := lcV false [8] (rngV (con (.int 10))) (gNm 8) yes (callF F__law_changed 2 (argC (slot 1) (argC (slot 3) argN)))
noncomputable abbrev outB : Rho → M Out := (gSeq (gSet 3 (callF F__law_tree 2 (argC (slot 1) (argC (bin pIx (lstV false (argC (con (.int 12)) (argC (con (.int 3)) (argC (con (.int 6)) argN)))) (bin pMod (slot 2) (con (.int 3)))) argN))))
  (gSeq (gSet 4 (lstV false (argC (slot 3) (argC (callF F__law_twin 1 (argC (slot 3) argN)) (argC (slot 3) (argC (tupV argN) (argC (tupV (argC (tupV (argC (con (.int 0)) (argC (con (.int 1)) argN))) argN)) (argC (tupV (argC (tupV (argC (con (.int 0)) (argC (con (.bool true)) argN))) argN)) (argC (tupV (argC (tupV (argC (con (.bool false)) (argC (con (.int 1)) argN))) argN)) (argC (tupV (argC (tupV (argC (con (.int 0)) (argC (con (.int 1)) argN))) argN)) (argC (callF F__law_odd 1 (argC (slot 1) argN)) argN)))))))))))
  (gFor (seqV (bin (pAdd false) (slot 4) chgF)) (gNm 5) valB)))
theorem out_turn {ns : List Int} {n : Int} {μ : Mu} (D : Deck n [] μ) (h0 : 0 ≤ n) (h1 : n < 10 ^ 8) {i : Nat} (o3 o4 o5 o6 o7 o8 o9 : Option Sv) :
    ∃ q3 q4 q5 q6 q7 q8 q9 μ' n', outB (lawS ns (some (svI (i : Nat))) o3 o4 o5 o6 o7 o8 o9) μ = some (.ok (.nx (lawS ns (some (svI (i : Nat))) q3 q4 q5 q6 q7 q8 q9)) μ') ∧ Deck n' [] μ' ∧ 0 ≤ n' ∧ n' ≤ n + 200 := by
  obtain ⟨most, hm1, hm2, hm⟩ : ∃ most : Int, 1 ≤ most ∧ most ≤ 12 ∧ atI [PyData.int 12, .int 3, .int 6] ((i : Int) % 3) = some (.int most) := by
    have a0 : 0 ≤ (i : Int) % 3 := Int.emod_nonneg _ (by decide)
    have a1 : (i : Int) % 3 < 3 := Int.emod_lt_of_pos _ (by decide)
    rcases (show (i : Int) % 3 = 0 ∨ (i : Int) % 3 = 1 ∨ (i : Int) % 3 = 2 by omega) with z | z | z
    · rw [z]
      exact ⟨12, by decide, by decide, atI_0 _ _⟩
    · rw [z]
      exact ⟨3, by decide, by decide, atI_1 _ _ _⟩
    · rw [z]
      exact ⟨6, by decide, by decide, atI_2 _ _ _ _⟩
  obtain ⟨rows, μ1, n1, e1, ok, hlen, D1, hn1, hn2⟩ := tree_ok D h0 (by omega) hm1 hm2
  have hl : rows.length ≤ 11 := by omega
  obtain ⟨sg, μ2, e2, vs, D2⟩ := odd_ok D1 (by omega) (by omega)
  have q1 : (gSet 3 (callF F__law_tree 2 (argC (slot 1) (argC (bin pIx (lstV false (argC (con (.int 12)) (argC (con (.int 3)) (argC (con (.int 6)) argN)))) (bin pMod (slot 2) (con (.int 3)))) argN)))) (lawS ns (some (svI (i : Nat))) o3 o4 o5 o6 o7 o8 o9) μ =
      some (.ok (.nx (lawS ns (some (svI (i : Nat))) (some (.dat (treeD rows))) o4 o5 o6 o7 o8 o9)) μ1) := by
    refine gset_at ?_
    have e3 : bin pIx (lstV false (argC (con (.int 12)) (argC (con (.int 3)) (argC (con (.int 6)) argN)))) (bin pMod (slot 2) (con (.int 3))) (lawS ns (some (svI (i : Nat))) o3 o4 o5 o6 o7 o8 o9) μ = some (.ok (svI most) μ) := by
      rw [bin_at (show lstV false (argC (con (.int 12)) (argC (con (.int 3)) (argC (con (.int 6)) argN))) _ _ = some (.ok (.dat (.list [.int 12, .int 3, .int 6])) μ) from rfl) (show bin pMod (slot 2) (con (.int 3)) (lawS ns (some (svI (i : Nat))) o3 o4 o5 o6 o7 o8 o9) μ = some (.ok (svI ((i : Int) % 3)) μ) from rfl)]
      exact lix_at hm μ
    rw [call2_at (show slot 1 _ _ = some (.ok (.ref 1) μ) from rfl) e3]
    exact e1
  let vals : List PyData := [treeD rows, twinD rows, treeD rows, .tuple [], .tuple [.tuple [.int 0, .int 1]], .tuple [.tuple [.int 0, .bool true]], .tuple [.tuple [.bool false, .int 1]], .tuple [.tuple [.int 0, .int 1]], sg]
  have q2 : (gSet 4 (lstV false (argC (slot 3) (argC (callF F__law_twin 1 (argC (slot 3) argN)) (argC (slot 3) (argC (tupV argN) (argC (tupV (argC (tupV (argC (con (.int 0)) (argC (con (.int 1)) argN))) argN)) (argC (tupV (argC (tupV (argC (con (.int 0)) (argC (con (.bool true)) argN))) argN)) (argC (tupV (argC (tupV (argC (con (.bool false)) (argC (con (.int 1)) argN))) argN)) (argC (tupV (argC (tupV (argC (con (.int 0)) (argC (con (.int 1)) argN))) argN)) (argC (callF F__law_odd 1 (argC (slot 1) argN)) argN))))))))))) (lawS ns (some (svI (i : Nat))) (some (.dat (treeD rows))) o4 o5 o6 o7 o8 o9) μ1 =
      some (.ok (.nx (lawS ns (some (svI (i : Nat))) (some (.dat (treeD rows))) (some (.dat (.list vals))) o5 o6 o7 o8 o9)) μ2) := by
    refine gset_at (lst_at vals (args_c (show slot 3 _ _ = some (.ok (.dat (treeD rows)) μ1) from rfl) (args_c ((call1_at (show slot 3 _ _ = some (.ok (.dat (treeD rows)) μ1) from rfl)).trans (call_twin hl μ1)) (args_c (show slot 3 _ _ = some (.ok (.dat (treeD rows)) μ1) from rfl)
      (args_c (a := .dat (.tuple [])) rfl (args_c (a := .dat (.tuple [.tuple [.int 0, .int 1]])) rfl (args_c (a := .dat (.tuple [.tuple [.int 0, .bool true]])) rfl (args_c (a := .dat (.tuple [.tuple [.bool false, .int 1]])) rfl (args_c (a := .dat (.tuple [.tuple [.int 0, .int 1]])) rfl
      (args_c ((call1_at (show slot 1 _ _ = some (.ok (.ref 1) μ1) from rfl)).trans e2) args_n))))))))) rfl (by show 9 ≤ 1000000; decide))
  have vt : Va false (treeD rows) 2000 2 := (Va.tuple (n := 95) (k := 1) fun d hd => va_rows ok hl d hd).up (by rw [List.length_map]; omega) (Nat.le_refl _)
  have up : ∀ {d : PyData} {n k : Nat}, n ≤ 30000 → k ≤ 8 → Some' d n k → Some' d 30000 8 := fun hn hk ⟨c, z⟩ => ⟨c, z.up hn hk⟩
  have small : ∀ {d : PyData}, vaB false d 1000 3 = true → Some' d 30000 8 := fun h => up (n := 1000) (k := 3) (by decide) (by decide) ⟨false, .of h⟩
  have vv : ∀ d ∈ vals, Some' d 30000 8 := fun d hd => by
    rcases List.mem_cons.mp hd with rfl | hd
    · exact up (by decide) (by decide) ⟨_, vt⟩
    · rcases List.mem_cons.mp hd with rfl | hd
      · exact up (by decide) (by decide) ⟨_, va_twin ok hl⟩
      · rcases List.mem_cons.mp hd with rfl | hd
        · exact up (by decide) (by decide) ⟨_, vt⟩
        · rcases List.mem_cons.mp hd with rfl | hd
          · exact small (by decide +kernel)
          · rcases List.mem_cons.mp hd with rfl | hd
            · exact small (by decide +kernel)
            · rcases List.mem_cons.mp hd with rfl | hd
              · exact small (by decide +kernel)
              · rcases List.mem_cons.mp hd with rfl | hd
                · exact small (by decide +kernel)
                · rcases List.mem_cons.mp hd with rfl | hd
                  · exact small (by decide +kernel)
                  · rw [List.mem_singleton.mp hd]
                    exact up (by decide) (by decide) vs
  obtain ⟨xs, μ3, e3, vx, lx, n3, D3, hn3⟩ := lcV_go (T := gNm 8) (Fe := callF F__law_changed 2 (argC (slot 1) (argC (slot 3) argN))) (Fi := rngV (con (.int 10))) (vs := [8]) (ρ := lawS ns (some (svI (i : Nat))) (some (.dat (treeD rows))) (some (.dat (.list vals))) o5 o6 o7 o8 o9) (μ := μ2) (ds := fromTo 0 10)
    (fun k μ => ∃ n' : Int, Deck n' [] μ ∧ n' = n1 + 1 + 6 * k) (fun d => Some' d 30000 8) rfl (by rw [fromTo_len]; decide) (fun d hd k μ hk ⟨n', D', hn'⟩ => by
      rw [fromTo_len] at hk
      obtain ⟨x, μ', e, vx, Dx⟩ := changed_ok D' (by omega) (by omega) ok hl
      exact ⟨_, x, μ', rfl, (call2_at rfl rfl).trans e, vx, n' + 6, Dx, by omega⟩) ⟨n1 + 1, D2, by omega⟩
  rw [fromTo_len] at lx hn3
  have q3 : seqV (bin (pAdd false) (slot 4) chgF) (lawS ns (some (svI (i : Nat))) (some (.dat (treeD rows))) (some (.dat (.list vals))) o5 o6 o7 o8 o9) μ2 = some (.ok (vals ++ xs) μ3) := by
    unfold seqV
    rw [bind_ok ((bin_at (show slot 4 _ μ2 = some (.ok (.dat (.list vals)) μ2) from rfl) e3).trans (cat_at (by rw [lx]; show 9 + 10 ≤ 1000000; decide) μ3))]
    rfl
  obtain ⟨ρ', μ', e4, p5, p6, p7, rfl, rfl⟩ := for_inv (T := gNm 5) (B := valB) (fun _ ρ μ' => ∃ p5 p6 p7, ρ = lawS ns (some (svI (i : Nat))) (some (.dat (treeD rows))) (some (.dat (.list vals))) p5 p6 p7 o8 o9 ∧ μ' = μ3) q3 (fun k d ρ μ' hd hI => by
      obtain ⟨p5, p6, p7, rfl, rfl⟩ := hI
      have hv : Some' d 30000 8 := by
        rcases List.mem_append.mp (List.mem_of_getElem? hd) with z | z
        · exact vv d z
        · exact vx d z
      obtain ⟨c, hv⟩ := hv
      exact ⟨_, _, _, _, rfl, .inl (val_turn ((hv.nice (by decide)).ok (by decide)) _ _ _ _ _ _ _ _), _, _, _, rfl, rfl⟩) ⟨o5, o6, o7, rfl, rfl⟩
  refine ⟨some (.dat (treeD rows)), some (.dat (.list vals)), p5, p6, p7, o8, o9, μ', n3, ?_, D3, by omega, by omega⟩
  show gSeq _ _ _ _ = _
  rw [seq_at q1, seq_at q2]
  exact e4
theorem law_true (ns : List Int) (h : ns.length ≤ 63) : ∃ μ, F_law [.scr ns] [] = some (.ok (.dat (.bool true)) μ) := by
  obtain ⟨μ0, e0, D0⟩ := deck_made ns h
  have q1 : (gSet 1 (callF F__law_deck 1 (argC (slot 0) argN))) [some (.scr ns), none, none, none, none, none, none, none, none, none] [] = some (.ok (.nx (lawS ns none none none none none none none none)) μ0) := by
    refine gset_at ?_
    rw [call1_at (show slot 0 _ _ = some (.ok (.scr ns) []) from rfl)]
    exact e0
  obtain ⟨ρ', μ', e, n, q2, q3, q4, q5, q6, q7, q8, q9, rfl, D, hn, hn2⟩ := for_inv (Fi := rngV (con (.int 8))) (T := gNm 2) (B := outB) (fun i ρ μ => ∃ n q2 q3 q4 q5 q6 q7 q8 q9, ρ = lawS ns q2 q3 q4 q5 q6 q7 q8 q9 ∧ Deck n [] μ ∧ 0 ≤ n ∧ n ≤ 200 * (i : Int))
    (ρ := lawS ns none none none none none none none none) (μ := μ0) (μ0 := μ0) (ds := fromTo 0 8) rfl (fun i d ρ μ hd hI => by
      obtain ⟨n, q2, q3, q4, q5, q6, q7, q8, q9, rfl, D, hn, hn2⟩ := hI
      obtain ⟨hi, rfl⟩ := fromTo_at hd
      obtain ⟨r3, r4, r5, r6, r7, r8, r9, μ', n', e, D', h1, h2⟩ := out_turn (ns := ns) (i := i) D hn (by omega) q3 q4 q5 q6 q7 q8 q9
      refine ⟨_, _, _, μ', rfl, .inl ?_, n', some (svI (i : Nat)), r3, r4, r5, r6, r7, r8, r9, rfl, D', h1, by omega⟩
      rw [Int.zero_add]
      exact e) ⟨0, none, none, none, none, none, none, none, none, rfl, D0, by omega, by omega⟩
  refine ⟨μ', strip_rt ?_⟩
  show G_law [some (.scr ns), none, none, none, none, none, none, none, none, none] [] = _
  unfold G_law
  rw [seq_at q1, seq_at e]
  rfl
theorem ok_law (T : Top mg) {f : Addr} {fd : FuncData} (F : Fun K "law" "law" s_law f fd) {f__law_deck : Addr} {fd__law_deck : FuncData} (F_law_deck : Fun K "_law_deck" "_law_deck" s__law_deck f__law_deck fd__law_deck) (g__law_deck : mg "_law_deck" = some (.ref f__law_deck)) (b__law_deck : Binds K fd__law_deck ["_law_script"] []) (C__law_deck : Gk P w K mg base (L2.CX P w) 1 f__law_deck fd__law_deck ["_law_script"] (spM K 1 F__law_deck)) {f__law_tree : Addr} {fd__law_tree : FuncData} (F_law_tree : Fun K "_law_tree" "_law_tree" s__law_tree f__law_tree fd__law_tree) (g__law_tree : mg "_law_tree" = some (.ref f__law_tree)) (b__law_tree : Binds K fd__law_tree ["_law_deck_here", "_law_most"] []) (C__law_tree : Gk P w K mg base (L2.CX P w) 2 f__law_tree fd__law_tree ["_law_deck_here", "_law_most"] (spM K 2 F__law_tree)) {f__law_twin : Addr} {fd__law_twin : FuncData} (F_law_twin : Fun K "_law_twin" "_law_twin" s__law_twin f__law_twin fd__law_twin) (g__law_twin : mg "_law_twin" = some (.ref f__law_twin)) (b__law_twin : Binds K fd__law_twin ["_law_rows"] []) (C__law_twin : Gk P w K mg base (L2.CX P w) 1 f__law_twin fd__law_twin ["_law_rows"] (spM K 1 F__law_twin)) {f__law_odd : Addr} {fd__law_odd : FuncData} (F_law_odd : Fun K "_law_odd" "_law_odd" s__law_odd f__law_odd fd__law_odd) (g__law_odd : mg "_law_odd" = some (.ref f__law_odd)) (b__law_odd : Binds K fd__law_odd ["_law_deck_here"] []) (C__law_odd : Gk P w K mg base (L2.CX P w) 2 f__law_odd fd__law_odd ["_law_deck_here"] (spM K 1 F__law_odd)) {f__law_changed : Addr} {fd__law_changed : FuncData} (F_law_changed : Fun K "_law_changed" "_law_changed" s__law_changed f__law_changed fd__law_changed) (g__law_changed : mg "_law_changed" = some (.ref f__law_changed)) (b__law_changed : Binds K fd__law_changed ["_law_deck_here", "_law_tree_here"] []) (C__law_changed : Gk P w K mg base (L2.CX P w) 3 f__law_changed fd__law_changed ["_law_deck_here", "_law_tree_here"] (spM K 2 F__law_changed)) {f__law_error : Addr} {fd__law_error : FuncData} (F_law_error : Fun K "_law_error" "_law_error" s__law_error f__law_error fd__law_error) (g__law_error : mg "_law_error" = some (.ref f__law_error)) (b__law_error : Binds K fd__law_error ["_law_value"] []) (C__law_error : Gk P w K mg base (L2.CX P w) 2 f__law_error fd__law_error ["_law_value"] (spM K 1 F__law_error)) {f__law_same : Addr} {fd__law_same : FuncData} (F_law_same : Fun K "_law_same" "_law_same" s__law_same f__law_same fd__law_same) (g__law_same : mg "_law_same" = some (.ref f__law_same)) (b__law_same : Binds K fd__law_same ["_law_value", "_law_due"] []) (C__law_same : Gk P w K mg base (L2.CX P w) 1 f__law_same fd__law_same ["_law_value", "_law_due"] (spM K 2 F__law_same)) {f_tree_error : Addr} {fd_tree_error : FuncData} (Ftree_error : Fun K "tree_error" "tree_error" s_tree_error f_tree_error fd_tree_error) (g_tree_error : mg "tree_error" = some (.ref f_tree_error)) (b_tree_error : Binds K fd_tree_error ["value"] []) (C_tree_error : Gk P w K mg base (L2.CX P w) 4 f_tree_error fd_tree_error ["value"] (spM K 1 F_tree_error)) {f_is_tree : Addr} {fd_is_tree : FuncData} (Fis_tree : Fun K "is_tree" "is_tree" s_is_tree f_is_tree fd_is_tree) (g_is_tree : mg "is_tree" = some (.ref f_is_tree)) (b_is_tree : Binds K fd_is_tree ["value"] []) (C_is_tree : Gk P w K mg base (L2.CX P w) 5 f_is_tree fd_is_tree ["value"] (spM K 1 F_is_tree)) : Gk P w K mg base (L2.CX P w) 6 f fd ["_law_script"] (spM K 1 F_law) := by
  refine gk_strip (k := 5) (l := 10) F sc_law rfl rfl G_law (fun cdv A below s H E hg hr => ?_)
  have nd : N_law.Nodup := sc_law.nd
  have hx : Passes (L2.CX P w) (bx P w K mg base N_law "law" s_law f cdv A below s H E) E := bx_pass
  have ho : PassesOwn (model P w) (bx P w K mg base N_law "law" s_law f cdv A below s H E).A (bx P w K mg base N_law "law" s_law f cdv A below s H E).env (bx P w K mg base N_law "law" s_law f cdv A below s H E).xe := bx_own
  exact (q_cons (s_set 1 nd (x_call1 C__law_deck hg hr g__law_deck F_law_deck.kp b__law_deck hx (a_cons (x_name 0) a_nil)))
  (q_cons (s_for ho rfl (i_rng rfl T.m_range x_int) (pg_nm 2 nd)
  (q_cons (s_set 3 nd (x_call1 C__law_tree hg hr g__law_tree F_law_tree.kp b__law_tree hx (a_cons (x_name 1) (a_cons (x_ix o_ix (x_lst false (a_cons x_int (a_cons x_int (a_cons x_int a_nil)))) (x_bin o_mod (x_name 2) x_int)) a_nil))))
  (q_cons (s_set 4 nd (x_lst false (a_cons (x_name 3) (a_cons (x_call1 C__law_twin hg hr g__law_twin F_law_twin.kp b__law_twin hx (a_cons (x_name 3) a_nil)) (a_cons (x_name 3) (a_cons (x_tup a_nil) (a_cons (x_tup (a_cons (x_tup (a_cons x_int (a_cons x_int a_nil))) a_nil)) (a_cons (x_tup (a_cons (x_tup (a_cons x_int (a_cons x_bl a_nil))) a_nil)) (a_cons (x_tup (a_cons (x_tup (a_cons x_bl (a_cons x_int a_nil))) a_nil)) (a_cons (x_tup (a_cons (x_tup (a_cons x_int (a_cons x_int a_nil))) a_nil)) (a_cons (x_call1 C__law_odd hg hr g__law_odd F_law_odd.kp b__law_odd hx (a_cons (x_name 1) a_nil)) a_nil)))))))))))
  (q_one (s_for ho rfl (i_seq (x_bin o_add (x_name 4) (x_lc false rfl nd (own := [("_law_k", 8)]) (i_rng rfl T.m_range x_int) (blkOk_by (N := N_law) (sc := defScope s_law) (by decide +kernel)) (fun _ _ _ _ _ => (pw_nm 8 nd (by decide))) (fun _ _ _ _ _ => ts_nil) (fun _ _ _ _ _ => (x_call1 C__law_changed hg hr g__law_changed F_law_changed.kp b__law_changed passL (a_cons (x_name 1) (a_cons (x_name 3) a_nil))))))) (pg_nm 5 nd)
  (q_cons (s_par 6 7 rfl nd (a_cons (x_callB (b_repr hg (Room.units hr)) rfl T.m_repr (by decide +kernel) (a_cons (x_name 5) a_nil)) (a_cons (x_call1 C__law_error hg hr g__law_error F_law_error.kp b__law_error hx (a_cons (x_name 5) a_nil)) a_nil)) (by first | rfl | with_unfolding_all rfl))
  (q_cons (s_if (t_not (t_val (x_call1 C__law_same hg hr g__law_same F_law_same.kp b__law_same hx (a_cons (x_lc false rfl nd (own := [("_law_again", 9)]) (i_rng rfl T.m_range x_int) (blkOk_by (N := N_law) (sc := defScope s_law) (by decide +kernel)) (fun _ _ _ _ _ => (pw_nm 9 nd (by decide))) (fun _ _ _ _ _ => ts_nil) (fun _ _ _ _ _ => (x_call1 C_tree_error hg hr g_tree_error Ftree_error.kp b_tree_error passL (a_cons (x_name 5) a_nil)))) (a_cons (x_lst false (a_cons (x_name 7) (a_cons (x_name 7) a_nil))) a_nil)))))
  (q_one (s_ret x_bl))
  q_nil)
  (q_one (s_if (t_w (w_or (t_cmp (o_ne (Room.units hr)) (x_callB (b_repr hg (Room.units hr)) rfl T.m_repr (by decide +kernel) (a_cons (x_call1 C_is_tree hg hr g_is_tree Fis_tree.kp b_is_tree hx (a_cons (x_name 5) a_nil)) a_nil)) (x_callB (b_repr hg (Room.units hr)) rfl T.m_repr (by decide +kernel) (a_cons (x_cmp o_is (x_name 7) x_non) a_nil))) (w_or1 (t_cmp (o_ne (Room.units hr)) (x_callB (b_repr hg (Room.units hr)) rfl T.m_repr (by decide +kernel) (a_cons (x_name 5) a_nil)) (x_name 6)))))
  (q_one (s_ret x_bl))
  q_nil)))))))))
  (q_one (s_ret x_bl))))
theorem all_mk {l : PySem.W.OpenLaw} {w : World} {K : PySem.W.Frag} {h : Heap} {mg : Str → Option Value} {fa : Addr} (X : K.In h) (G : h.Ns mainGlobals mg) (hfa : mg "law" = some (.ref fa))
    {fis_number : Addr} {odis_number anis_number : Option Addr} {slis_number : Array (Option Value)} {ocis_number kVis_number dcis_number pmis_number cdis_number ctis_number : Value}
    (ais_number : PySem.W.nsIn K mainGlobals "is_number" = some (some (.ref fis_number))) (lis_number : K.lookup fis_number = some ⟨ocis_number, odis_number, .func (PySem.W.fnOf "is_number" "is_number" (defArgs s_is_number) (defBody s_is_number) (defScope s_is_number) .none kVis_number dcis_number pmis_number anis_number cdis_number ctis_number), slis_number⟩) (cis_number : PySem.W.codeIn K cdis_number "is_number" = true) (kis_number : PySem.W.keepIn K (.ref fis_number) = true)
    {fis_number_from_to : Addr} {odis_number_from_to anis_number_from_to : Option Addr} {slis_number_from_to : Array (Option Value)} {ocis_number_from_to kVis_number_from_to dcis_number_from_to pmis_number_from_to cdis_number_from_to ctis_number_from_to : Value}
    (ais_number_from_to : PySem.W.nsIn K mainGlobals "is_number_from_to" = some (some (.ref fis_number_from_to))) (lis_number_from_to : K.lookup fis_number_from_to = some ⟨ocis_number_from_to, odis_number_from_to, .func (PySem.W.fnOf "is_number_from_to" "is_number_from_to" (defArgs s_is_number_from_to) (defBody s_is_number_from_to) (defScope s_is_number_from_to) .none kVis_number_from_to dcis_number_from_to pmis_number_from_to anis_number_from_to cdis_number_from_to ctis_number_from_to), slis_number_from_to⟩) (cis_number_from_to : PySem.W.codeIn K cdis_number_from_to "is_number_from_to" = true) (kis_number_from_to : PySem.W.keepIn K (.ref fis_number_from_to) = true)
    {f_law_is_number : Addr} {od_law_is_number an_law_is_number : Option Addr} {sl_law_is_number : Array (Option Value)} {oc_law_is_number kV_law_is_number dc_law_is_number pm_law_is_number cd_law_is_number ct_law_is_number : Value}
    (a_law_is_number : PySem.W.nsIn K mainGlobals "_law_is_number" = some (some (.ref f_law_is_number))) (l_law_is_number : K.lookup f_law_is_number = some ⟨oc_law_is_number, od_law_is_number, .func (PySem.W.fnOf "_law_is_number" "_law_is_number" (defArgs s__law_is_number) (defBody s__law_is_number) (defScope s__law_is_number) .none kV_law_is_number dc_law_is_number pm_law_is_number an_law_is_number cd_law_is_number ct_law_is_number), sl_law_is_number⟩) (c_law_is_number : PySem.W.codeIn K cd_law_is_number "_law_is_number" = true) (k_law_is_number : PySem.W.keepIn K (.ref f_law_is_number) = true)
    {fis_row : Addr} {odis_row anis_row : Option Addr} {slis_row : Array (Option Value)} {ocis_row kVis_row dcis_row pmis_row cdis_row ctis_row : Value}
    (ais_row : PySem.W.nsIn K mainGlobals "is_row" = some (some (.ref fis_row))) (lis_row : K.lookup fis_row = some ⟨ocis_row, odis_row, .func (PySem.W.fnOf "is_row" "is_row" (defArgs s_is_row) (defBody s_is_row) (defScope s_is_row) .none kVis_row dcis_row pmis_row anis_row cdis_row ctis_row), slis_row⟩) (cis_row : PySem.W.codeIn K cdis_row "is_row" = true) (kis_row : PySem.W.keepIn K (.ref fis_row) = true)
    {ftree_error : Addr} {odtree_error antree_error : Option Addr} {sltree_error : Array (Option Value)} {octree_error kVtree_error dctree_error pmtree_error cdtree_error cttree_error : Value}
    (atree_error : PySem.W.nsIn K mainGlobals "tree_error" = some (some (.ref ftree_error))) (ltree_error : K.lookup ftree_error = some ⟨octree_error, odtree_error, .func (PySem.W.fnOf "tree_error" "tree_error" (defArgs s_tree_error) (defBody s_tree_error) (defScope s_tree_error) .none kVtree_error dctree_error pmtree_error antree_error cdtree_error cttree_error), sltree_error⟩) (ctree_error : PySem.W.codeIn K cdtree_error "tree_error" = true) (ktree_error : PySem.W.keepIn K (.ref ftree_error) = true)
    {f_law_error : Addr} {od_law_error an_law_error : Option Addr} {sl_law_error : Array (Option Value)} {oc_law_error kV_law_error dc_law_error pm_law_error cd_law_error ct_law_error : Value}
    (a_law_error : PySem.W.nsIn K mainGlobals "_law_error" = some (some (.ref f_law_error))) (l_law_error : K.lookup f_law_error = some ⟨oc_law_error, od_law_error, .func (PySem.W.fnOf "_law_error" "_law_error" (defArgs s__law_error) (defBody s__law_error) (defScope s__law_error) .none kV_law_error dc_law_error pm_law_error an_law_error cd_law_error ct_law_error), sl_law_error⟩) (c_law_error : PySem.W.codeIn K cd_law_error "_law_error" = true) (k_law_error : PySem.W.keepIn K (.ref f_law_error) = true)
    {fis_tree : Addr} {odis_tree anis_tree : Option Addr} {slis_tree : Array (Option Value)} {ocis_tree kVis_tree dcis_tree pmis_tree cdis_tree ctis_tree : Value}
    (ais_tree : PySem.W.nsIn K mainGlobals "is_tree" = some (some (.ref fis_tree))) (lis_tree : K.lookup fis_tree = some ⟨ocis_tree, odis_tree, .func (PySem.W.fnOf "is_tree" "is_tree" (defArgs s_is_tree) (defBody s_is_tree) (defScope s_is_tree) .none kVis_tree dcis_tree pmis_tree anis_tree cdis_tree ctis_tree), slis_tree⟩) (cis_tree : PySem.W.codeIn K cdis_tree "is_tree" = true) (kis_tree : PySem.W.keepIn K (.ref fis_tree) = true)
    {f_law_deck : Addr} {od_law_deck an_law_deck : Option Addr} {sl_law_deck : Array (Option Value)} {oc_law_deck kV_law_deck dc_law_deck pm_law_deck cd_law_deck ct_law_deck : Value}
    (a_law_deck : PySem.W.nsIn K mainGlobals "_law_deck" = some (some (.ref f_law_deck))) (l_law_deck : K.lookup f_law_deck = some ⟨oc_law_deck, od_law_deck, .func (PySem.W.fnOf "_law_deck" "_law_deck" (defArgs s__law_deck) (defBody s__law_deck) (defScope s__law_deck) .none kV_law_deck dc_law_deck pm_law_deck an_law_deck cd_law_deck ct_law_deck), sl_law_deck⟩) (c_law_deck : PySem.W.codeIn K cd_law_deck "_law_deck" = true) (k_law_deck : PySem.W.keepIn K (.ref f_law_deck) = true)
    {f_law_draw : Addr} {od_law_draw an_law_draw : Option Addr} {sl_law_draw : Array (Option Value)} {oc_law_draw kV_law_draw dc_law_draw pm_law_draw cd_law_draw ct_law_draw : Value}
    (a_law_draw : PySem.W.nsIn K mainGlobals "_law_draw" = some (some (.ref f_law_draw))) (l_law_draw : K.lookup f_law_draw = some ⟨oc_law_draw, od_law_draw, .func (PySem.W.fnOf "_law_draw" "_law_draw" (defArgs s__law_draw) (defBody s__law_draw) (defScope s__law_draw) .none kV_law_draw dc_law_draw pm_law_draw an_law_draw cd_law_draw ct_law_draw), sl_law_draw⟩) (c_law_draw : PySem.W.codeIn K cd_law_draw "_law_draw" = true) (k_law_draw : PySem.W.keepIn K (.ref f_law_draw) = true)
    {f_law_same : Addr} {od_law_same an_law_same : Option Addr} {sl_law_same : Array (Option Value)} {oc_law_same kV_law_same dc_law_same pm_law_same cd_law_same ct_law_same : Value}
    (a_law_same : PySem.W.nsIn K mainGlobals "_law_same" = some (some (.ref f_law_same))) (l_law_same : K.lookup f_law_same = some ⟨oc_law_same, od_law_same, .func (PySem.W.fnOf "_law_same" "_law_same" (defArgs s__law_same) (defBody s__law_same) (defScope s__law_same) .none kV_law_same dc_law_same pm_law_same an_law_same cd_law_same ct_law_same), sl_law_same⟩) (c_law_same : PySem.W.codeIn K cd_law_same "_law_same" = true) (k_law_same : PySem.W.keepIn K (.ref f_law_same) = true)
    {f_law_tree : Addr} {od_law_tree an_law_tree : Option Addr} {sl_law_tree : Array (Option Value)} {oc_law_tree kV_law_tree dc_law_tree pm_law_tree cd_law_tree ct_law_tree : Value}
    (a_law_tree : PySem.W.nsIn K mainGlobals "_law_tree" = some (some (.ref f_law_tree))) (l_law_tree : K.lookup f_law_tree = some ⟨oc_law_tree, od_law_tree, .func (PySem.W.fnOf "_law_tree" "_law_tree" (defArgs s__law_tree) (defBody s__law_tree) (defScope s__law_tree) .none kV_law_tree dc_law_tree pm_law_tree an_law_tree cd_law_tree ct_law_tree), sl_law_tree⟩) (c_law_tree : PySem.W.codeIn K cd_law_tree "_law_tree" = true) (k_law_tree : PySem.W.keepIn K (.ref f_law_tree) = true)
    {f_law_odd : Addr} {od_law_odd an_law_odd : Option Addr} {sl_law_odd : Array (Option Value)} {oc_law_odd kV_law_odd dc_law_odd pm_law_odd cd_law_odd ct_law_odd : Value}
    (a_law_odd : PySem.W.nsIn K mainGlobals "_law_odd" = some (some (.ref f_law_odd))) (l_law_odd : K.lookup f_law_odd = some ⟨oc_law_odd, od_law_odd, .func (PySem.W.fnOf "_law_odd" "_law_odd" (defArgs s__law_odd) (defBody s__law_odd) (defScope s__law_odd) .none kV_law_odd dc_law_odd pm_law_odd an_law_odd cd_law_odd ct_law_odd), sl_law_odd⟩) (c_law_odd : PySem.W.codeIn K cd_law_odd "_law_odd" = true) (k_law_odd : PySem.W.keepIn K (.ref f_law_odd) = true)
    {f_law_twin : Addr} {od_law_twin an_law_twin : Option Addr} {sl_law_twin : Array (Option Value)} {oc_law_twin kV_law_twin dc_law_twin pm_law_twin cd_law_twin ct_law_twin : Value}
    (a_law_twin : PySem.W.nsIn K mainGlobals "_law_twin" = some (some (.ref f_law_twin))) (l_law_twin : K.lookup f_law_twin = some ⟨oc_law_twin, od_law_twin, .func (PySem.W.fnOf "_law_twin" "_law_twin" (defArgs s__law_twin) (defBody s__law_twin) (defScope s__law_twin) .none kV_law_twin dc_law_twin pm_law_twin an_law_twin cd_law_twin ct_law_twin), sl_law_twin⟩) (c_law_twin : PySem.W.codeIn K cd_law_twin "_law_twin" = true) (k_law_twin : PySem.W.keepIn K (.ref f_law_twin) = true)
    {f_law_changed : Addr} {od_law_changed an_law_changed : Option Addr} {sl_law_changed : Array (Option Value)} {oc_law_changed kV_law_changed dc_law_changed pm_law_changed cd_law_changed ct_law_changed : Value}
    (a_law_changed : PySem.W.nsIn K mainGlobals "_law_changed" = some (some (.ref f_law_changed))) (l_law_changed : K.lookup f_law_changed = some ⟨oc_law_changed, od_law_changed, .func (PySem.W.fnOf "_law_changed" "_law_changed" (defArgs s__law_changed) (defBody s__law_changed) (defScope s__law_changed) .none kV_law_changed dc_law_changed pm_law_changed an_law_changed cd_law_changed ct_law_changed), sl_law_changed⟩) (c_law_changed : PySem.W.codeIn K cd_law_changed "_law_changed" = true) (k_law_changed : PySem.W.keepIn K (.ref f_law_changed) = true)
    {flaw : Addr} {odlaw anlaw : Option Addr} {sllaw : Array (Option Value)} {oclaw kVlaw dclaw pmlaw cdlaw ctlaw : Value}
    (alaw : PySem.W.nsIn K mainGlobals "law" = some (some (.ref flaw))) (llaw : K.lookup flaw = some ⟨oclaw, odlaw, .func (PySem.W.fnOf "law" "law" (defArgs s_law) (defBody s_law) (defScope s_law) .none kVlaw dclaw pmlaw anlaw cdlaw ctlaw), sllaw⟩) (claw : PySem.W.codeIn K cdlaw "law" = true) (klaw : PySem.W.keepIn K (.ref flaw) = true)
    (z_abs : PySem.W.nsIn K mainGlobals "abs" = some none)
    (z_bool : PySem.W.nsIn K mainGlobals "bool" = some none)
    (z_enumerate : PySem.W.nsIn K mainGlobals "enumerate" = some none)
    (z_int : PySem.W.nsIn K mainGlobals "int" = some none)
    (z_isinstance : PySem.W.nsIn K mainGlobals "isinstance" = some none)
    (z_len : PySem.W.nsIn K mainGlobals "len" = some none)
    (z_list : PySem.W.nsIn K mainGlobals "list" = some none)
    (z_max : PySem.W.nsIn K mainGlobals "max" = some none)
    (z_range : PySem.W.nsIn K mainGlobals "range" = some none)
    (z_repr : PySem.W.nsIn K mainGlobals "repr" = some none)
    (z_tuple : PySem.W.nsIn K mainGlobals "tuple" = some none)
    {t_MAX_LENGTH : Tok} (y_MAX_LENGTH : PySem.W.nsIn K mainGlobals "MAX_LENGTH" = some (some (.int 1000000 t_MAX_LENGTH)))
    {t_MAX_MARKS : Tok} (y_MAX_MARKS : PySem.W.nsIn K mainGlobals "MAX_MARKS" = some (some (.int 12 t_MAX_MARKS)))
    : ∃ fd : FuncData, (∀ (s : Shared) (v : Value), BindsTo s fd ⟨[v], []⟩ [("_law_script", v)]) ∧ ∀ base : Heap, K.In base → base.Ns mainGlobals mg → Gk l.prog w K mg base (L2.CX l.prog w) 6 fa fd ["_law_script"] (spLaw F_law 63 K) := by
  have e := hfa.symm.trans (PySem.W.mg_of X G alaw)
  cases e
  have T : Top mg := ⟨PySem.W.mg_none_of X G z_abs, PySem.W.mg_none_of X G z_bool, PySem.W.mg_none_of X G z_enumerate, PySem.W.mg_none_of X G z_int, PySem.W.mg_none_of X G z_isinstance, PySem.W.mg_none_of X G z_len, PySem.W.mg_none_of X G z_list, PySem.W.mg_none_of X G z_max, PySem.W.mg_none_of X G z_range, PySem.W.mg_none_of X G z_repr, PySem.W.mg_none_of X G z_tuple, ⟨_, PySem.W.mg_of X G y_MAX_LENGTH⟩, ⟨_, PySem.W.mg_of X G y_MAX_MARKS⟩⟩
  have Fis_number := fun_mk (st := s_is_number) lis_number cis_number kis_number
  have bis_number := Fis_number.binds (ps := ["value"]) fun _ _ _ _ _ _ us hl => match us, hl with | [_], _ => rfl
  have gis_number := PySem.W.mg_of X G ais_number
  have Fis_number_from_to := fun_mk (st := s_is_number_from_to) lis_number_from_to cis_number_from_to kis_number_from_to
  have bis_number_from_to := Fis_number_from_to.binds (ps := ["value", "least", "most"]) fun _ _ _ _ _ _ us hl => match us, hl with | [_, _, _], _ => rfl
  have gis_number_from_to := PySem.W.mg_of X G ais_number_from_to
  have F_law_is_number := fun_mk (st := s__law_is_number) l_law_is_number c_law_is_number k_law_is_number
  have b_law_is_number := F_law_is_number.binds (ps := ["_law_value", "_law_low", "_law_high"]) fun _ _ _ _ _ _ us hl => match us, hl with | [_, _, _], _ => rfl
  have g_law_is_number := PySem.W.mg_of X G a_law_is_number
  have Fis_row := fun_mk (st := s_is_row) lis_row cis_row kis_row
  have bis_row := Fis_row.binds (ps := ["row", "index"]) fun _ _ _ _ _ _ us hl => match us, hl with | [_, _], _ => rfl
  have gis_row := PySem.W.mg_of X G ais_row
  have Ftree_error := fun_mk (st := s_tree_error) ltree_error ctree_error ktree_error
  have btree_error := Ftree_error.binds (ps := ["value"]) fun _ _ _ _ _ _ us hl => match us, hl with | [_], _ => rfl
  have gtree_error := PySem.W.mg_of X G atree_error
  have F_law_error := fun_mk (st := s__law_error) l_law_error c_law_error k_law_error
  have b_law_error := F_law_error.binds (ps := ["_law_value"]) fun _ _ _ _ _ _ us hl => match us, hl with | [_], _ => rfl
  have g_law_error := PySem.W.mg_of X G a_law_error
  have Fis_tree := fun_mk (st := s_is_tree) lis_tree cis_tree kis_tree
  have bis_tree := Fis_tree.binds (ps := ["value"]) fun _ _ _ _ _ _ us hl => match us, hl with | [_], _ => rfl
  have gis_tree := PySem.W.mg_of X G ais_tree
  have F_law_deck := fun_mk (st := s__law_deck) l_law_deck c_law_deck k_law_deck
  have b_law_deck := F_law_deck.binds (ps := ["_law_script"]) fun _ _ _ _ _ _ us hl => match us, hl with | [_], _ => rfl
  have g_law_deck := PySem.W.mg_of X G a_law_deck
  have F_law_draw := fun_mk (st := s__law_draw) l_law_draw c_law_draw k_law_draw
  have b_law_draw := F_law_draw.binds (ps := ["_law_deck_here", "_law_limit"]) fun _ _ _ _ _ _ us hl => match us, hl with | [_, _], _ => rfl
  have g_law_draw := PySem.W.mg_of X G a_law_draw
  have F_law_same := fun_mk (st := s__law_same) l_law_same c_law_same k_law_same
  have b_law_same := F_law_same.binds (ps := ["_law_value", "_law_due"]) fun _ _ _ _ _ _ us hl => match us, hl with | [_, _], _ => rfl
  have g_law_same := PySem.W.mg_of X G a_law_same
  have F_law_tree := fun_mk (st := s__law_tree) l_law_tree c_law_tree k_law_tree
  have b_law_tree := F_law_tree.binds (ps := ["_law_deck_here", "_law_most"]) fun _ _ _ _ _ _ us hl => match us, hl with | [_, _], _ => rfl
  have g_law_tree := PySem.W.mg_of X G a_law_tree
  have F_law_odd := fun_mk (st := s__law_odd) l_law_odd c_law_odd k_law_odd
  have b_law_odd := F_law_odd.binds (ps := ["_law_deck_here"]) fun _ _ _ _ _ _ us hl => match us, hl with | [_], _ => rfl
  have g_law_odd := PySem.W.mg_of X G a_law_odd
  have F_law_twin := fun_mk (st := s__law_twin) l_law_twin c_law_twin k_law_twin
  have b_law_twin := F_law_twin.binds (ps := ["_law_rows"]) fun _ _ _ _ _ _ us hl => match us, hl with | [_], _ => rfl
  have g_law_twin := PySem.W.mg_of X G a_law_twin
  have F_law_changed := fun_mk (st := s__law_changed) l_law_changed c_law_changed k_law_changed
  have b_law_changed := F_law_changed.binds (ps := ["_law_deck_here", "_law_tree_here"]) fun _ _ _ _ _ _ us hl => match us, hl with | [_, _], _ => rfl
  have g_law_changed := PySem.W.mg_of X G a_law_changed
  have Flaw := fun_mk (st := s_law) llaw claw klaw
  refine ⟨PySem.W.fnOf "law" "law" (defArgs s_law) (defBody s_law) (defScope s_law) .none kVlaw dclaw pmlaw anlaw cdlaw ctlaw, fun s v => .of_eq rfl, fun base _ _ => ?_⟩
  have Cis_number := ok_is_number (P := l.prog) (w := w) (base := base) T Fis_number  
  have Cis_number_from_to := ok_is_number_from_to (P := l.prog) (w := w) (base := base) T Fis_number_from_to  Fis_number gis_number bis_number Cis_number
  have C_law_is_number := ok__law_is_number (P := l.prog) (w := w) (base := base) T F_law_is_number  
  have Cis_row := ok_is_row (P := l.prog) (w := w) (base := base) T Fis_row  Fis_number_from_to gis_number_from_to bis_number_from_to Cis_number_from_to
  have Ctree_error := ok_tree_error (P := l.prog) (w := w) (base := base) T Ftree_error  Fis_row gis_row bis_row Cis_row
  have C_law_error := ok__law_error (P := l.prog) (w := w) (base := base) T F_law_error  F_law_is_number g_law_is_number b_law_is_number C_law_is_number
  have Cis_tree := ok_is_tree (P := l.prog) (w := w) (base := base) T Fis_tree  Ftree_error gtree_error btree_error Ctree_error
  have C_law_deck := ok__law_deck (P := l.prog) (w := w) (base := base) T F_law_deck  
  have C_law_draw := ok__law_draw (P := l.prog) (w := w) (base := base) T F_law_draw  
  have C_law_same := ok__law_same (P := l.prog) (w := w) (base := base) T F_law_same  
  have C_law_tree := ok__law_tree (P := l.prog) (w := w) (base := base) T F_law_tree  F_law_draw g_law_draw b_law_draw C_law_draw
  have C_law_odd := ok__law_odd (P := l.prog) (w := w) (base := base) T F_law_odd  F_law_draw g_law_draw b_law_draw C_law_draw
  have C_law_twin := ok__law_twin (P := l.prog) (w := w) (base := base) T F_law_twin  
  have C_law_changed := ok__law_changed (P := l.prog) (w := w) (base := base) T F_law_changed  F_law_draw g_law_draw b_law_draw C_law_draw F_law_odd g_law_odd b_law_odd C_law_odd
  have Claw := ok_law (P := l.prog) (w := w) (base := base) T Flaw  F_law_deck g_law_deck b_law_deck C_law_deck F_law_tree g_law_tree b_law_tree C_law_tree F_law_twin g_law_twin b_law_twin C_law_twin F_law_odd g_law_odd b_law_odd C_law_odd F_law_changed g_law_changed b_law_changed C_law_changed F_law_error g_law_error b_law_error C_law_error F_law_same g_law_same b_law_same C_law_same Ftree_error gtree_error btree_error Ctree_error Fis_tree gis_tree bis_tree Cis_tree
  exact Claw
end Pf
open PySem PySem.W PyProof.Rows
set_option maxHeartbeats 0 in
theorem PySem.Challenge.cw_marktopples_k00_trees_judged_holds : PySem.Challenge.rw_marktopples_k00_trees_judged.Holds := by
  w_on; o_law; k_head; (case hw => w_witness2)
  k_fill
  refine Pf.law_walk (l := PySem.Challenge.rw_marktopples_k00_trees_judged) (n := 63) (k := 6) (x := "_law_script") (sp := Pf.spLaw Pf.F_law 63) rfl (by decide) rfl ⟨rfl, by decide, by decide⟩ (fun w h Y => PySem.W.kIn_of Y) ?F (Pf.spLaw_of Pf.law_true)
  case F =>
    intro w mg fa h KX G hmg
    refine' Pf.all_mk KX G hmg ?ais_number ?lis_number ?cis_number ?kis_number ?ais_number_from_to ?lis_number_from_to ?cis_number_from_to ?kis_number_from_to ?a_law_is_number ?l_law_is_number ?c_law_is_number ?k_law_is_number ?ais_row ?lis_row ?cis_row ?kis_row ?atree_error ?ltree_error ?ctree_error ?ktree_error ?a_law_error ?l_law_error ?c_law_error ?k_law_error ?ais_tree ?lis_tree ?cis_tree ?kis_tree ?a_law_deck ?l_law_deck ?c_law_deck ?k_law_deck ?a_law_draw ?l_law_draw ?c_law_draw ?k_law_draw ?a_law_same ?l_law_same ?c_law_same ?k_law_same ?a_law_tree ?l_law_tree ?c_law_tree ?k_law_tree ?a_law_odd ?l_law_odd ?c_law_odd ?k_law_odd ?a_law_twin ?l_law_twin ?c_law_twin ?k_law_twin ?a_law_changed ?l_law_changed ?c_law_changed ?k_law_changed ?alaw ?llaw ?claw ?klaw ?z_abs ?z_bool ?z_enumerate ?z_int ?z_isinstance ?z_len ?z_list ?z_max ?z_range ?z_repr ?z_tuple ?y_MAX_LENGTH ?y_MAX_MARKS
    (case ais_number => k_is); (case lis_number => k_is); (case cis_number => k_is); (case kis_number => k_is); (case ais_number_from_to => k_is); (case lis_number_from_to => k_is); (case cis_number_from_to => k_is); (case kis_number_from_to => k_is); (case a_law_is_number => k_is); (case l_law_is_number => k_is); (case c_law_is_number => k_is); (case k_law_is_number => k_is); (case ais_row => k_is); (case lis_row => k_is); (case cis_row => k_is); (case kis_row => k_is); (case atree_error => k_is); (case ltree_error => k_is); (case ctree_error => k_is); (case ktree_error => k_is); (case a_law_error => k_is); (case l_law_error => k_is); (case c_law_error => k_is); (case k_law_error => k_is); (case ais_tree => k_is); (case lis_tree => k_is); (case cis_tree => k_is); (case kis_tree => k_is); (case a_law_deck => k_is); (case l_law_deck => k_is); (case c_law_deck => k_is); (case k_law_deck => k_is); (case a_law_draw => k_is); (case l_law_draw => k_is); (case c_law_draw => k_is); (case k_law_draw => k_is); (case a_law_same => k_is); (case l_law_same => k_is); (case c_law_same => k_is); (case k_law_same => k_is); (case a_law_tree => k_is); (case l_law_tree => k_is); (case c_law_tree => k_is); (case k_law_tree => k_is); (case a_law_odd => k_is); (case l_law_odd => k_is); (case c_law_odd => k_is); (case k_law_odd => k_is); (case a_law_twin => k_is); (case l_law_twin => k_is); (case c_law_twin => k_is); (case k_law_twin => k_is); (case a_law_changed => k_is); (case l_law_changed => k_is); (case c_law_changed => k_is); (case k_law_changed => k_is); (case alaw => k_is); (case llaw => k_is); (case claw => k_is); (case klaw => k_is); (case z_abs => k_is); (case z_bool => k_is); (case z_enumerate => k_is); (case z_int => k_is); (case z_isinstance => k_is); (case z_len => k_is); (case z_list => k_is); (case z_max => k_is); (case z_range => k_is); (case z_repr => k_is); (case z_tuple => k_is); (case y_MAX_LENGTH => k_is); (case y_MAX_MARKS => k_is)


