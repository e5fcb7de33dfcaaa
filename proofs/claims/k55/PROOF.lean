import PyProof.Rows.All
import Wide.All
import OpenK.AllK
import Wide.FinOn
import HandS.ForMost
import HandS.TupAny
import HandS.Deep
import HandS.IsInst
import HandS.Lambda
import HandS.Style
import HandS.Zip
import HandS.ForExc
import HandS.FStrTup
import KE.GoesEnum
import PyProof.Conv_int_bool
import HandS.ExcField
import HandS.Defaults
import HandS.ExcOwn
import KE.KExcIs
import HandS.ExcIs
import HandS.TupMul
import KE.DataMinMax
import KE.GoesZip
import KE.GoesMore
import HandS.AnyAll
import HandS.HotCalls
import PyProof.Rows.CallKwBuiltin
import KE.DataEq
import HandS.TryOnly
import HandS.TupLe
import KE.DatumOrd
import HandS.Star
import HandS.Text
import HandS.FStr
import PySem.Challenge.RW_marktopples_k55_field_texts
set_option Elab.async false
set_option linter.all false
set_option maxRecDepth 100000
/-! A pure reading of bodies: values as data, mutable objects by tags. -/
namespace Pf
open PySem PySem.Spec PyProof.Rows L2

/-! ### data -/
mutual
inductive Dq (K : PySem.W.Frag) (H : Hp) : V → PyData → Prop
  | non : Dq K H .non .none
  | bl (b : Bool) : Dq K H (.bl b) (.bool b)
  | int (i : Int) : Dq K H (.int i) (.int i)
  | str (x : Str) : Dq K H (.str x) (.str x)
  | lst {a : Addr} {xs : List V} {ds : List PyData} (h : H a = some (.lst xs)) (r : Dqs K H xs ds) : Dq K H (.ref a) (.list ds)
  | tup {a : Addr} {xs : List V} {ds : List PyData} (h : SqT K H a xs) (r : Dqs K H xs ds) : Dq K H (.ref a) (.tuple ds)
  | dct {a : Addr} {kvs : List (Key × V)} {ds : List (PyData × PyData)} (h : H a = some (.dK kvs)) (r : Dqk K H kvs ds) : Dq K H (.ref a) (.dict ds)
inductive Dqs (K : PySem.W.Frag) (H : Hp) : List V → List PyData → Prop
  | nil : Dqs K H [] []
  | cons {v : V} {vs : List V} {d : PyData} {ds : List PyData} (h : Dq K H v d) (r : Dqs K H vs ds) : Dqs K H (v :: vs) (d :: ds)
inductive Dqk (K : PySem.W.Frag) (H : Hp) : List (Key × V) → List (PyData × PyData) → Prop
  | nil : Dqk K H [] []
  | cons {k : Key} {v : V} {vs : List (Key × V)} {c d : PyData} {ds : List (PyData × PyData)} (hk : Dq K H (kV k) c) (h : Dq K H v d) (r : Dqk K H vs ds) : Dqk K H ((k, v) :: vs) ((c, d) :: ds)
end

theorem seqT_mono {K : PySem.W.Frag} {H H' : Hp} {a : Addr} {xs : List V} (e : Same H H') (h : SqT K H a xs) : SqT K H' a xs := by
  rcases h with (h | ⟨o, h⟩) | h
  · exact .inl (.inl (e _ _ h))
  · exact .inl (.inr ⟨o, e _ _ h⟩)
  · exact .inr h

section
variable {K : PySem.W.Frag} {H H' : Hp}
mutual
theorem Dq.mono (e : Same H H') : ∀ {v : V} {d : PyData}, Dq K H v d → Dq K H' v d
  | _, _, .non => .non
  | _, _, .bl b => .bl b
  | _, _, .int b => .int b
  | _, _, .str b => .str b
  | _, _, .lst h r => .lst (e _ _ h) (Dqs.mono e r)
  | _, _, .tup h r => .tup (seqT_mono e h) (Dqs.mono e r)
  | _, _, .dct h r => .dct (e _ _ h) (Dqk.mono e r)
theorem Dqs.mono (e : Same H H') : ∀ {v : List V} {d : List PyData}, Dqs K H v d → Dqs K H' v d
  | _, _, .nil => .nil
  | _, _, .cons h r => .cons (Dq.mono e h) (Dqs.mono e r)
theorem Dqk.mono (e : Same H H') : ∀ {v : List (Key × V)} {d : List (PyData × PyData)}, Dqk K H v d → Dqk K H' v d
  | _, _, .nil => .nil
  | _, _, .cons k h r => .cons (Dq.mono e k) (Dq.mono e h) (Dqk.mono e r)
end
end

theorem Dqs.len {K : PySem.W.Frag} {H : Hp} : ∀ {v : List V} {d : List PyData}, Dqs K H v d → v.length = d.length
  | _, _, .nil => rfl
  | _, _, .cons _ r => by rw [List.length_cons, List.length_cons, Dqs.len r]
theorem Dqs.get {K : PySem.W.Frag} {H : Hp} : ∀ {v : List V} {d : List PyData} {i : Nat} {x : V}, Dqs K H v d → v[i]? = some x → ∃ y, d[i]? = some y ∧ Dq K H x y
  | _, _, _, _, .nil, h => by simp at h
  | _, _, 0, _, .cons h r, q => by
    simp at q
    subst q
    exact ⟨_, rfl, h⟩
  | _, _, i + 1, _, .cons h r, q => by
    obtain ⟨y, e, z⟩ := Dqs.get (i := i) r (by simpa using q)
    exact ⟨y, by simpa using e, z⟩
theorem Dqs.getD {K : PySem.W.Frag} {H : Hp} {v : List V} {d : List PyData} {i : Nat} {y : PyData} (r : Dqs K H v d) (q : d[i]? = some y) : ∃ x, v[i]? = some x ∧ Dq K H x y := by
  have hi : i < v.length := by
    rw [r.len]
    exact (List.getElem?_eq_some_iff.mp q).1
  obtain ⟨z, e, h⟩ := r.get (List.getElem?_eq_getElem hi)
  rw [q] at e
  cases e
  exact ⟨_, List.getElem?_eq_getElem hi, h⟩
theorem Dqs.append {K : PySem.W.Frag} {H : Hp} : ∀ {v : List V} {d : List PyData} {v' : List V} {d' : List PyData}, Dqs K H v d → Dqs K H v' d' → Dqs K H (v ++ v') (d ++ d')
  | _, _, _, _, .nil, s => s
  | _, _, _, _, .cons h r, s => .cons h (Dqs.append r s)
theorem Dqs.take {K : PySem.W.Frag} {H : Hp} : ∀ {v : List V} {d : List PyData} (n : Nat), Dqs K H v d → Dqs K H (v.take n) (d.take n)
  | _, _, 0, _ => .nil
  | _, _, _ + 1, .nil => .nil
  | _, _, n + 1, .cons h r => .cons h (Dqs.take n r)
theorem Dqs.drop {K : PySem.W.Frag} {H : Hp} : ∀ {v : List V} {d : List PyData} (n : Nat), Dqs K H v d → Dqs K H (v.drop n) (d.drop n)
  | _, _, 0, r => r
  | _, _, _ + 1, .nil => .nil
  | _, _, n + 1, .cons _ r => Dqs.drop n r
theorem Dqs.reverse {K : PySem.W.Frag} {H : Hp} : ∀ {v : List V} {d : List PyData}, Dqs K H v d → Dqs K H v.reverse d.reverse
  | _, _, .nil => .nil
  | _, _, .cons h r => by
    rw [List.reverse_cons, List.reverse_cons]
    exact (Dqs.reverse r).append (.cons h .nil)

/-! ### reading the true heap -/
theorem Dqk.keys {K : PySem.W.Frag} {H : Hp} : ∀ {v : List (Key × V)} {d : List (PyData × PyData)}, Dqk K H v d → Dqs K H (v.map fun p => kV p.1) (d.map (·.1))
  | _, _, .nil => .nil
  | _, _, .cons k _ r => .cons k (Dqk.keys r)
theorem Dqk.vals {K : PySem.W.Frag} {H : Hp} : ∀ {v : List (Key × V)} {d : List (PyData × PyData)}, Dqk K H v d → Dqs K H (v.map (·.2)) (d.map (·.2))
  | _, _, .nil => .nil
  | _, _, .cons _ h r => .cons h (Dqk.vals r)
theorem rel_key {k : Key} {v : Value} (h : keyIs k v = true) : RelV (kV k) v := by
  rcases keyIs_shape h with ⟨i, t, rfl, rfl⟩ | ⟨x, t, rfl, rfl⟩
  · exact ⟨t, rfl⟩
  · exact ⟨t, rfl⟩
theorem pair_vals {P : Program} {w : World} : ∀ {kvs : List (Key × V)} {vs : List (Key × Value)} {es : List DictEntry}, KV kvs vs → Pairs (mixKind P w) es vs → Vals (kvs.map fun p => kV p.1) (es.map (·.key)) ∧ Vals (kvs.map (·.2)) (es.map (·.val))
  | _, _, _, .nil, .nil => ⟨.nil, .nil⟩
  | _, _, _, .cons h r, .cons h1 h2 h3 => by
    obtain ⟨a, b⟩ := pair_vals r h3
    refine ⟨.cons ?_ a, .cons ?_ b⟩
    · dsimp only
      rw [h.1]
      exact rel_key h1
    · dsimp only
      rw [h2]
      exact h.2
/-- no list within -/
def bare : PyData → Bool
  | .list _ => false
  | .tuple ds => bareAll ds
  | .dict ds => bareKv ds
  | _ => true
where
  bareAll : List PyData → Bool
  | [] => true
  | d :: ds => bare d && bareAll ds
  bareKv : List (PyData × PyData) → Bool
  | [] => true
  | (c, d) :: ds => bare c && bare d && bareKv ds
section
variable {X : Cx} {pins : List (Addr × Obj)} {σ : L2.St} {H : Hp} {s : Shared}
/-- the modules' dict is no list: it is the kit's, or held as it is -/
def SmOk (K : PySem.W.Frag) (H : Hp) : Prop := (∃ om es ep, K.lookup sysModules = some om ∧ om.data = .dict es ep) ∨ ∃ om es ep, H sysModules = some (.frz om (.own 0)) ∧ om.data = .dict es ep
theorem SmOk.ext {K : PySem.W.Frag} {H H' : Hp} (h : SmOk K H) (e : Same H H') : SmOk K H' := by
  rcases h with h | ⟨om, es, ep, h1, h2⟩
  · exact .inl h
  · exact .inr ⟨om, es, ep, e _ _ h1, h2⟩
theorem SmOk.upd {K : PySem.W.Frag} {H : Hp} {q : Addr} {vs : List V} {ob : HO} (h : SmOk K H) (e : H q = some (.lst vs)) : SmOk K (L2.upd H q ob) := by
  rcases h with h | ⟨om, es, ep, h1, h2⟩
  · exact .inl h
  · exact .inr ⟨om, es, ep, by rw [upd_ne fun z => by rw [z, e] at h1; cases h1]; exact h1, h2⟩
theorem SmOk.dict {X : Cx} {pins : List (Addr × Obj)} {σ : L2.St} {H : Hp} {s : Shared} (h : SmOk X.K H) (I : Inv X pins σ H s) : ∃ om es ep, s.heap.get? sysModules = some om ∧ om.data = .dict es ep := by
  rcases h with ⟨om, es, ep, h1, h2⟩ | ⟨om, es, ep, h1, h2⟩
  · exact ⟨om, es, ep, I.kIn _ _ h1, h2⟩
  · exact ⟨om, es, ep, (I.hok _ _ h1).1, h2⟩
mutual
theorem Dq.reads (I : Inv X pins σ H s) : ∀ {v : V} {d : PyData} {u : Value}, Dq X.K H v d → RelV v u → ∃ as, Reads s.heap u d as ∧ (SmOk X.K H → sysModules ∉ as)
  | _, _, _, .non, r => by
    cases r
    exact ⟨_, Reads.none, fun _ z => nomatch z⟩
  | _, _, _, .bl b, r => by
    cases r
    exact ⟨_, Reads.bool b, fun _ z => nomatch z⟩
  | _, _, _, .int i, r => by
    obtain ⟨t, rfl⟩ := r
    exact ⟨_, Reads.int i t, fun _ z => nomatch z⟩
  | _, _, _, .str x, r => by
    obtain ⟨t, rfl⟩ := r
    exact ⟨_, Reads.str x t, fun _ z => nomatch z⟩
  | _, _, _, .lst hs ha, r => by
    cases r
    obtain ⟨its, rv, ⟨o, n, ho, hc, _, hd⟩, _⟩ := I.list (SqL.of hs)
    obtain ⟨as, hr, hb⟩ := Dqs.reads I ha rv
    refine ⟨_, Reads.list ho hc hd hr, fun z hm => ?_⟩
    rcases List.mem_cons.mp hm with hm | hm
    · obtain ⟨om, es, ep, e1, e2⟩ := z.dict I
      rw [hm, ho] at e1
      cases e1
      rw [hd] at e2
      cases e2
    · exact hb z hm
  | _, _, _, .tup hs ha, r => by
    cases r
    obtain ⟨its, rv, ⟨o, ho, hc, n, hd⟩, _⟩ := I.tuple hs
    obtain ⟨as, hr, hb⟩ := Dqs.reads I ha rv
    exact ⟨_, Reads.tuple ho hc hd hr, fun z => hb z⟩
  | _, _, _, .dct hs ha, r => by
    cases r
    obtain ⟨_, hsm, vs, kv, o, es, ep, ho, hx, hd, _, hp, _⟩ := I.hok _ _ hs
    obtain ⟨r1, r2⟩ := pair_vals kv hp
    obtain ⟨as, bs, q1, q2, hb⟩ := Dqk.reads I ha r1 r2
    refine ⟨_, Reads.dict ho hx.1 hd q1 q2, fun z => ?_⟩
    have z2 := hb z
    intro hm
    rcases List.mem_append.mp hm with hm | hm
    · rcases List.mem_cons.mp hm with hm | hm
      · rw [← hm] at hsm
        simp at hsm
      · exact z2.1 hm
    · exact z2.2 hm
theorem Dqs.reads (I : Inv X pins σ H s) : ∀ {vs : List V} {ds : List PyData} {us : List Value}, Dqs X.K H vs ds → Vals vs us → ∃ as, ReadsAll s.heap us ds as ∧ (SmOk X.K H → sysModules ∉ as)
  | _, _, _, .nil, r => by
    cases r
    exact ⟨_, ReadsAll.nil, fun _ z => nomatch z⟩
  | _, d :: ds, _, .cons h1 h2, r => by
    cases r with
    | cons r1 r2 =>
      obtain ⟨as, q1, b1⟩ := Dq.reads I h1 r1
      obtain ⟨bs, q2, b2⟩ := Dqs.reads I h2 r2
      refine ⟨_, ReadsAll.cons q1 q2, fun z hm => ?_⟩
      rcases List.mem_append.mp hm with hm | hm
      · exact b1 z hm
      · exact b2 z hm
theorem Dqk.reads (I : Inv X pins σ H s) : ∀ {kvs : List (Key × V)} {ds : List (PyData × PyData)} {ks us : List Value}, Dqk X.K H kvs ds → Vals (kvs.map fun p => kV p.1) ks → Vals (kvs.map (·.2)) us →
    ∃ as bs, ReadsAll s.heap ks (ds.map (·.1)) as ∧ ReadsAll s.heap us (ds.map (·.2)) bs ∧ (SmOk X.K H → sysModules ∉ as ∧ sysModules ∉ bs)
  | _, _, _, _, .nil, r1, r2 => by
    cases r1
    cases r2
    exact ⟨_, _, ReadsAll.nil, ReadsAll.nil, fun _ => ⟨fun z => (nomatch z), fun z => nomatch z⟩⟩
  | _, (c, d) :: ds, _, _, .cons hk h1 h2, r, r' => by
    cases r with
    | cons r1 r2 =>
      cases r' with
      | cons r3 r4 =>
        obtain ⟨cs, q0, b0⟩ := Dq.reads I hk r1
        obtain ⟨ds', q1, b1⟩ := Dq.reads I h1 r3
        obtain ⟨as, bs, q2, q3, b2⟩ := Dqk.reads I h2 r2 r4
        refine ⟨_, _, ReadsAll.cons q0 q2, ReadsAll.cons q1 q3, fun z => ?_⟩
        have z2 := b2 z
        refine ⟨fun hm => ?_, fun hm => ?_⟩
        · rcases List.mem_append.mp hm with hm | hm
          · exact b0 z hm
          · exact z2.1 hm
        · rcases List.mem_append.mp hm with hm | hm
          · exact b1 z hm
          · exact z2.2 hm
end
end

/-! ### mutable objects by tags, the state -/
/-- the tables of code objects that the law's lambdas are kept in, and the names of these -/
def lamT : List (Addr × Str) := []
inductive Sv where
  | dat (d : PyData)
  | ref (t : Nat)
  | scr (ns : List Int)
inductive MObj where
  | lst (xs : List Sv)
  | gone
abbrev Mu := List MObj
abbrev Rho := List (Option Sv)
/-- a world: where the tagged objects stand, and the part of the heap that never changes -/
structure Wd where
  η : Nat → Addr
  S : Hp
def SvR (K : PySem.W.Frag) (W : Wd) (n : Nat) : V → Sv → Prop
  | v, .dat d => Dq K W.S v d
  | v, .ref t => t < n ∧ v = .ref (W.η t)
  | v, .scr ns => ∃ a, v = .ref a ∧ SqL K W.S a (ns.map V.int)
abbrev SvRs (K : PySem.W.Frag) (W : Wd) (n : Nat) : List V → List Sv → Prop := Paired (SvR K W n)
def ObR (K : PySem.W.Frag) (W : Wd) (n : Nat) (H : Hp) (a : Addr) : MObj → Prop
  | .lst xs => ∃ vs, H a = some (.lst vs) ∧ SvRs K W n vs xs
  | .gone => True
def alive : MObj → Bool
  | .gone => false
  | _ => true
structure Rel (K : PySem.W.Frag) (W : Wd) (H : Hp) (μ : Mu) : Prop where
  sub : Same W.S H
  obj : ∀ i o, μ[i]? = some o → ObR K W μ.length H (W.η i) o
  own : ∀ i o, μ[i]? = some o → alive o = true → W.S (W.η i) = none
  inj : ∀ i j o o', μ[i]? = some o → μ[j]? = some o' → alive o = true → alive o' = true → W.η i = W.η j → i = j
  tab : LamX.Tabs lamT H
  sm : SmOk K H
  nt : ∀ b ps, W.S b ≠ some (.tbl ps)
structure Gr0 (W : Wd) (n : Nat) (W' : Wd) (n' : Nat) : Prop where
  le : n ≤ n'
  same : Same W.S W'.S
  at_ : ∀ i, i < n → W'.η i = W.η i
theorem Gr0.refl (W : Wd) (n : Nat) : Gr0 W n W n := ⟨Nat.le_refl _, Same.refl _, fun _ _ => rfl⟩
theorem Gr0.trans {W W1 W2 : Wd} {n n1 n2 : Nat} (a : Gr0 W n W1 n1) (b : Gr0 W1 n1 W2 n2) : Gr0 W n W2 n2 :=
  ⟨Nat.le_trans a.le b.le, a.same.trans b.same, fun i h => (b.at_ i (Nat.lt_of_lt_of_le h a.le)).trans (a.at_ i h)⟩
theorem SvR.grow0 {K : PySem.W.Frag} {W W' : Wd} {n n' : Nat} (g : Gr0 W n W' n') : ∀ {v : V} {x : Sv}, SvR K W n v x → SvR K W' n' v x
  | _, .dat _, h => Dq.mono g.same h
  | _, .ref t, h => ⟨Nat.lt_of_lt_of_le h.1 g.le, by rw [h.2, g.at_ t h.1]⟩
  | _, .scr _, ⟨a, e, h⟩ => ⟨a, e, g.same.seq h⟩
theorem SvRs.grow0 {K : PySem.W.Frag} {W W' : Wd} {n n' : Nat} (g : Gr0 W n W' n') : ∀ {v : List V} {x : List Sv}, SvRs K W n v x → SvRs K W' n' v x
  | _, _, .nil => .nil
  | _, _, .cons h r => .cons (SvR.grow0 g h) (SvRs.grow0 g r)
theorem SvRs.len {K : PySem.W.Frag} {W : Wd} {n : Nat} {v : List V} {x : List Sv} (h : SvRs K W n v x) : v.length = x.length := Paired.length h
theorem SvRs.get {K : PySem.W.Frag} {W : Wd} {n : Nat} : ∀ {v : List V} {x : List Sv} {i : Nat} {y : Sv}, SvRs K W n v x → x[i]? = some y → ∃ u, v[i]? = some u ∧ SvR K W n u y
  | _, _, _, _, .nil, e => by simp at e
  | _, _, 0, _, .cons r _, e => by
    simp at e
    subst e
    exact ⟨_, rfl, r⟩
  | _, _, i + 1, y, .cons _ t, e => by
    obtain ⟨u, h1, h2⟩ := SvRs.get (i := i) (y := y) t (by simpa using e)
    exact ⟨u, by simpa using h1, h2⟩
theorem SvRs.set {K : PySem.W.Frag} {W : Wd} {n : Nat} {u : V} {y : Sv} (r : SvR K W n u y) : ∀ {v : List V} {x : List Sv} (i : Nat), SvRs K W n v x → SvRs K W n (v.set i u) (x.set i y)
  | _, _, _, .nil => .nil
  | _, _, 0, .cons _ t => .cons r t
  | _, _, i + 1, .cons q t => .cons q (SvRs.set r i t)
theorem SvRs.append {K : PySem.W.Frag} {W : Wd} {n : Nat} : ∀ {v v' : List V} {x x' : List Sv}, SvRs K W n v x → SvRs K W n v' x' → SvRs K W n (v ++ v') (x ++ x')
  | _, _, _, _, .nil, s => s
  | _, _, _, _, .cons r t, s => .cons r (SvRs.append t s)
/-- the data of a list of values -/
def dats : List Sv → Option (List PyData)
  | [] => some []
  | .dat d :: r => (dats r).map (d :: ·)
  | _ :: _ => none
theorem dats_rel {K : PySem.W.Frag} {W : Wd} {n : Nat} : ∀ {v : List V} {x : List Sv} {ds : List PyData}, SvRs K W n v x → dats x = some ds → Dqs K W.S v ds
  | _, _, _, .nil, e => by
    cases e
    exact .nil
  | _, .dat d :: r, _, .cons h t, e => by
    have e' : (dats r).map (d :: ·) = some _ := e
    cases q : dats r with
    | none =>
      rw [q] at e'
      cases e'
    | some z =>
      rw [q] at e'
      cases e'
      exact .cons h (dats_rel t q)
  | _, .ref t :: r, _, .cons h _, e => by cases e
  | _, .scr t :: r, _, .cons h _, e => by cases e
theorem rel_dats {K : PySem.W.Frag} {W : Wd} {n : Nat} : ∀ {v : List V} {ds : List PyData}, Dqs K W.S v ds → SvRs K W n v (ds.map Sv.dat)
  | _, _, .nil => .nil
  | _, _, .cons h r => .cons h (rel_dats r)
theorem dats_map (ds : List PyData) : dats (ds.map Sv.dat) = some ds := by
  induction ds with
  | nil => rfl
  | cons d ds ih =>
    show (dats (ds.map Sv.dat)).map (d :: ·) = _
    rw [ih]
    rfl
/-- the slots -/
structure Sls (K : PySem.W.Frag) (W : Wd) (n : Nat) (σ : L2.St) (ρ : Rho) : Prop where
  at_ : ∀ (i : Nat) (x : Sv), ρ[i]? = some (some x) → ∃ v, σ[i]? = some (some v) ∧ SvR K W n v x
  len : σ.length = ρ.length
theorem Sls.grow0 {K : PySem.W.Frag} {W W' : Wd} {n n' : Nat} {σ : L2.St} {ρ : Rho} (g : Gr0 W n W' n') (h : Sls K W n σ ρ) : Sls K W' n' σ ρ :=
  ⟨fun i x e => let ⟨v, a, b⟩ := h.at_ i x e; ⟨v, a, b.grow0 g⟩, h.len⟩
theorem Sls.set {K : PySem.W.Frag} {W : Wd} {n : Nat} {σ : L2.St} {ρ : Rho} {v : V} {x : Sv} (h : Sls K W n σ ρ) (i : Nat) (r : SvR K W n v x) : Sls K W n (σ.set i (some v)) (ρ.set i (some x)) := by
  refine ⟨fun j y e => ?_, by rw [List.length_set, List.length_set, h.len]⟩
  by_cases hj : i = j
  · subst hj
    have hi : i < ρ.length := by
      have := (List.getElem?_eq_some_iff.mp e).1
      simpa using this
    rw [List.getElem?_set_self hi] at e
    cases e
    exact ⟨v, List.getElem?_set_self (by rw [h.len]; exact hi), r⟩
  · rw [List.getElem?_set_ne hj] at e
    obtain ⟨u, a, b⟩ := h.at_ j y e
    exact ⟨u, by rw [List.getElem?_set_ne hj]; exact a, b⟩
/-! ### heaps that grow -/
theorem same_new {H : Hp} {p : Addr} {o : HO} (h : H p = none) : Same H (upd H p o) := fun b x e => by
  rw [upd_ne (ne_of_none e h)]
  exact e
theorem same_both {S H : Hp} {p : Addr} {o : HO} (h : Same S H) : Same (upd S p o) (upd H p o) := fun b x e => by
  by_cases hb : b = p
  · subst hb
    rw [upd_same] at e ⊢
    exact e
  · rw [upd_ne hb] at e ⊢
    exact h b x e
section
variable {K : PySem.W.Frag} {W : Wd} {H : Hp} {μ : Mu} {p : Addr} {o : HO}
theorem Rel.free (R : Rel K W H μ) (hp : H p = none) : W.S p = none := R.sub.free hp
theorem Rel.apart (R : Rel K W H μ) (hp : H p = none) {i : Nat} {xs : List Sv} (e : μ[i]? = some (.lst xs)) : W.η i ≠ p := by
  obtain ⟨vs, h, _⟩ := R.obj i _ e
  exact ne_of_none h hp
/-- a new object, not followed -/
theorem Rel.lay (R : Rel K W H μ) (hp : H p = none) : Rel K W (upd H p o) μ where
  sub := R.sub.trans (same_new hp)
  obj := fun i ob e => by
    cases ob with
    | gone => trivial
    | lst xs =>
      obtain ⟨vs, h, r⟩ := R.obj i _ e
      exact ⟨vs, same_new hp _ _ h, r⟩
  own := R.own
  inj := R.inj
  tab := R.tab.ext (same_new hp)
  sm := R.sm.ext (same_new hp)
  nt := R.nt
/-- a new shared object -/
def Wd.put (W : Wd) (p : Addr) (o : HO) : Wd := ⟨W.η, upd W.S p o⟩
theorem Wd.put_grow {n : Nat} (h : W.S p = none) : Gr0 W n (W.put p o) n := ⟨Nat.le_refl _, same_new h, fun _ _ => rfl⟩
theorem Rel.share (R : Rel K W H μ) (hp : H p = none) (hn : ∀ ps, o ≠ .tbl ps := by intro _ z; cases z) : Rel K (W.put p o) (upd H p o) μ where
  sub := same_both R.sub
  obj := fun i ob e => by
    cases ob with
    | gone => trivial
    | lst xs =>
      obtain ⟨vs, h, r⟩ := R.obj i _ e
      exact ⟨vs, same_new hp _ _ h, SvRs.grow0 (Wd.put_grow (R.free hp)) r⟩
  own := fun i ob e ha => by
    cases ob with
    | gone => cases ha
    | lst xs =>
      show upd W.S p o (W.η i) = none
      rw [upd_ne (R.apart hp e)]
      exact R.own i _ e ha
  inj := R.inj
  tab := R.tab.ext (same_new hp)
  sm := R.sm.ext (same_new hp)
  nt := fun b ps e => by
    have e' : upd W.S p o b = some (.tbl ps) := e
    by_cases hb : b = p
    · subst hb
      rw [upd_same] at e'
      exact hn ps (Option.some.inj e')
    · rw [upd_ne hb] at e'
      exact R.nt b ps e'
theorem tabs_upd {H : Hp} {q : Addr} {vs : List V} {ob : HO} (t : LamX.Tabs lamT H) (h : H q = some (.lst vs)) : LamX.Tabs lamT (upd H q ob) := fun pr hpr => by
  obtain ⟨ps, h1, h2, h3⟩ := t pr hpr
  refine ⟨ps, by rw [upd_ne fun z => by rw [z, h] at h1; cases h1]; exact h1, h2, fun pos cv hc => ?_⟩
  obtain ⟨c, e1, e2⟩ := h3 pos cv hc
  have nc : c ≠ q := fun z => by
    rw [z, h] at e2
    unfold LamX.CodeO at e2
    cases e2
  exact ⟨c, e1, by rw [upd_ne nc]; exact e2⟩
/-- a new tagged list -/
def Wd.tag (W : Wd) (n : Nat) (p : Addr) : Wd := ⟨fun i => if i = n then p else W.η i, W.S⟩
theorem Wd.tag_grow {n : Nat} : Gr0 W n (W.tag n p) (n + 1) := ⟨Nat.le_succ _, Same.refl _, fun i h => if_neg (Nat.ne_of_lt h)⟩
theorem Wd.tag_self {n : Nat} : (W.tag n p).η n = p := if_pos rfl
theorem Wd.tag_old {n i : Nat} (h : i < n) : (W.tag n p).η i = W.η i := if_neg (Nat.ne_of_lt h)
theorem Rel.alloc (R : Rel K W H μ) (hp : H p = none) {vs : List V} {xs : List Sv} (r : SvRs K W μ.length vs xs) : Rel K (W.tag μ.length p) (upd H p (.lst vs)) (μ ++ [.lst xs]) := by
  have hl : (μ ++ [MObj.lst xs]).length = μ.length + 1 := by simp
  have split : ∀ i ob, (μ ++ [MObj.lst xs])[i]? = some ob → (i < μ.length ∧ μ[i]? = some ob) ∨ (i = μ.length ∧ ob = .lst xs) := fun i ob e => by
    by_cases hi : i < μ.length
    · rw [List.getElem?_append_left hi] at e
      exact .inl ⟨hi, e⟩
    · have hi2 : i < (μ ++ [MObj.lst xs]).length := (List.getElem?_eq_some_iff.mp e).1
      have : i = μ.length := by omega
      subst this
      rw [List.getElem?_append_right (Nat.le_refl _)] at e
      simp at e
      exact .inr ⟨rfl, e.symm⟩
  have nold : ∀ i ob, μ[i]? = some ob → alive ob = true → W.η i ≠ p := fun i ob e ha => by
    cases ob with
    | gone => cases ha
    | lst ys => exact R.apart hp e
  refine ⟨R.sub.trans (same_new hp), fun i ob e => ?_, fun i ob e ha => ?_, fun i j o1 o2 e1 e2 a1 a2 q => ?_, R.tab.ext (same_new hp), R.sm.ext (same_new hp), R.nt⟩
  · rw [hl]
    rcases split i ob e with ⟨hi, e⟩ | ⟨rfl, rfl⟩
    · rw [Wd.tag_old hi]
      cases ob with
      | gone => trivial
      | lst ys =>
        obtain ⟨us, h, q⟩ := R.obj i _ e
        exact ⟨us, same_new hp _ _ h, q.grow0 Wd.tag_grow⟩
    · rw [Wd.tag_self]
      exact ⟨vs, upd_same, r.grow0 Wd.tag_grow⟩
  · rcases split i ob e with ⟨hi, e⟩ | ⟨rfl, rfl⟩
    · rw [Wd.tag_old hi]
      exact R.own i ob e ha
    · rw [Wd.tag_self]
      exact R.free hp
  · rcases split i o1 e1 with ⟨hi, e1⟩ | ⟨rfl, rfl⟩
    · rcases split j o2 e2 with ⟨hj, e2⟩ | ⟨rfl, rfl⟩
      · rw [Wd.tag_old hi, Wd.tag_old hj] at q
        exact R.inj i j o1 o2 e1 e2 a1 a2 q
      · rw [Wd.tag_old hi, Wd.tag_self] at q
        exact absurd q (nold i o1 e1 a1)
    · rcases split j o2 e2 with ⟨hj, e2⟩ | ⟨rfl, rfl⟩
      · rw [Wd.tag_old hj, Wd.tag_self] at q
        exact absurd q.symm (nold j o2 e2 a2)
      · rfl
theorem at_set {α : Type} {l : List α} {t i : Nat} {x y : α} (h : (l.set t x)[i]? = some y) : (i = t ∧ y = x) ∨ (i ≠ t ∧ l[i]? = some y) := by
  by_cases hi : t = i
  · subst hi
    have hl : t < l.length := by
      have := (List.getElem?_eq_some_iff.mp h).1
      simpa using this
    rw [List.getElem?_set_self hl] at h
    cases h
    exact .inl ⟨rfl, rfl⟩
  · rw [List.getElem?_set_ne hi] at h
    exact .inr ⟨fun z => hi z.symm, h⟩
/-- a tagged list is written -/
theorem Rel.write (R : Rel K W H μ) {t : Nat} {ys : List Sv} (e : μ[t]? = some (.lst ys)) {vs : List V} {xs : List Sv} (r : SvRs K W μ.length vs xs) : Rel K W (upd H (W.η t) (.lst vs)) (μ.set t (.lst xs)) := by
  have hlen : (μ.set t (MObj.lst xs)).length = μ.length := List.length_set ..
  have hown := R.own t _ e rfl
  have ne : ∀ i ob, i ≠ t → μ[i]? = some ob → alive ob = true → W.η i ≠ W.η t := fun i ob hi q ha z => hi (R.inj i t ob _ q e ha rfl z)
  refine ⟨fun b x q => ?_, fun i ob q => ?_, fun i ob q ha => ?_, fun i j o1 o2 q1 q2 a1 a2 z => ?_, let ⟨_, h, _⟩ := R.obj t _ e; tabs_upd R.tab h, let ⟨_, h, _⟩ := R.obj t _ e; R.sm.upd h, R.nt⟩
  · have hb : b ≠ W.η t := fun z => by
      rw [z, hown] at q
      cases q
    rw [upd_ne hb]
    exact R.sub b x q
  · rw [hlen]
    rcases at_set q with ⟨rfl, rfl⟩ | ⟨hi, q⟩
    · exact ⟨vs, upd_same, r⟩
    · cases ob with
      | gone => trivial
      | lst zs =>
        obtain ⟨us, h, z⟩ := R.obj i _ q
        exact ⟨us, by rw [upd_ne (ne i _ hi q rfl)]; exact h, z⟩
  · rcases at_set q with ⟨rfl, rfl⟩ | ⟨hi, q⟩
    · exact hown
    · exact R.own i ob q ha
  · rcases at_set q1 with ⟨h1, h2⟩ | ⟨hi, p1⟩
    · rcases at_set q2 with ⟨h3, h4⟩ | ⟨hj, p2⟩
      · rw [h1, h3]
      · exact absurd (h1 ▸ z).symm (ne j o2 hj p2 a2)
    · rcases at_set q2 with ⟨h3, h4⟩ | ⟨hj, p2⟩
      · exact absurd (h3 ▸ z) (ne i o1 hi p1 a1)
      · exact R.inj i j o1 o2 p1 p2 a1 a2 z
/-- a tagged list becomes data -/
theorem Rel.freeze (R : Rel K W H μ) {t : Nat} {ys : List Sv} {ds : List PyData} (e : μ[t]? = some (.lst ys)) (hd : dats ys = some ds) :
    ∃ W', Gr0 W μ.length W' μ.length ∧ Rel K W' H (μ.set t .gone) ∧ Dq K W'.S (.ref (W.η t)) (.list ds) ∧ W'.η = W.η ∧ ∀ a, a ≠ W.η t → W'.S a = W.S a := by
  obtain ⟨vs, h, r⟩ := R.obj t _ e
  have hown := R.own t _ e rfl
  have g : Gr0 W μ.length (W.put (W.η t) (.lst vs)) μ.length := Wd.put_grow hown
  refine ⟨W.put (W.η t) (.lst vs), g, ⟨fun b x q => ?_, fun i ob q => ?_, fun i ob q ha => ?_, fun i j o1 o2 q1 q2 a1 a2 z => ?_, R.tab, R.sm, fun b ps q => ?_⟩, .lst upd_same (Dqs.mono g.same (dats_rel r hd)), rfl, fun a ha => upd_ne ha⟩
  · by_cases hb : b = W.η t
    · subst hb
      have q' : upd W.S (W.η t) (.lst vs) (W.η t) = some x := q
      rw [upd_same] at q'
      cases q'
      exact h
    · have q' : upd W.S (W.η t) (.lst vs) b = some x := q
      rw [upd_ne hb] at q'
      exact R.sub b x q'
  · rw [List.length_set]
    rcases at_set q with ⟨rfl, rfl⟩ | ⟨hi, q⟩
    · trivial
    · cases ob with
      | gone => trivial
      | lst zs =>
        obtain ⟨us, h, z⟩ := R.obj i _ q
        exact ⟨us, h, z.grow0 g⟩
  · rcases at_set q with ⟨rfl, rfl⟩ | ⟨hi, q⟩
    · cases ha
    · show upd W.S (W.η t) (.lst vs) (W.η i) = none
      rw [upd_ne fun z => hi (R.inj i t ob _ q e ha rfl z)]
      exact R.own i ob q ha
  · rcases at_set q1 with ⟨rfl, rfl⟩ | ⟨hi, q1⟩
    · cases a1
    · rcases at_set q2 with ⟨rfl, rfl⟩ | ⟨hj, q2⟩
      · cases a2
      · exact R.inj i j o1 o2 q1 q2 a1 a2 z
  · have q' : upd W.S (W.η t) (.lst vs) b = some (.tbl ps) := q
    by_cases hb : b = W.η t
    · subst hb
      rw [upd_same] at q'
      cases q'
    · rw [upd_ne hb] at q'
      exact R.nt b ps q'
end

/-! ### a step: what is shared stays, what no tag owns stays -/
def Loose (W : Wd) (μ : Mu) (a : Addr) : Prop := W.S a = none ∧ ∀ (t : Nat) (ob : MObj), μ[t]? = some ob → alive ob = true → W.η t ≠ a
structure Grow (W : Wd) (H : Hp) (μ : Mu) (W' : Wd) (H' : Hp) (μ' : Mu) : Prop where
  gr : Gr0 W μ.length W' μ'.length
  frm : ∀ a o, H a = some o → (∀ ps, o ≠ .tbl ps) → Loose W μ a → H' a = some o ∧ Loose W' μ' a
theorem Grow.same {W W' : Wd} {H H' : Hp} {μ μ' : Mu} (g : Grow W H μ W' H' μ') : Same W.S W'.S := g.gr.same
theorem Grow.at_ {W W' : Wd} {H H' : Hp} {μ μ' : Mu} (g : Grow W H μ W' H' μ') : ∀ i, i < μ.length → W'.η i = W.η i := g.gr.at_
theorem Grow.refl (W : Wd) (H : Hp) (μ : Mu) : Grow W H μ W H μ := ⟨Gr0.refl _ _, fun _ _ h _ l => ⟨h, l⟩⟩
theorem Grow.trans {W W1 W2 : Wd} {H H1 H2 : Hp} {μ μ1 μ2 : Mu} (a : Grow W H μ W1 H1 μ1) (b : Grow W1 H1 μ1 W2 H2 μ2) : Grow W H μ W2 H2 μ2 :=
  ⟨a.gr.trans b.gr, fun c o h n l => let ⟨h1, l1⟩ := a.frm c o h n l; b.frm c o h1 n l1⟩
theorem SvR.grow {K : PySem.W.Frag} {W W' : Wd} {H H' : Hp} {μ μ' : Mu} {v : V} {x : Sv} (g : Grow W H μ W' H' μ') (h : SvR K W μ.length v x) : SvR K W' μ'.length v x := h.grow0 g.gr
theorem SvRs.grow {K : PySem.W.Frag} {W W' : Wd} {H H' : Hp} {μ μ' : Mu} {v : List V} {x : List Sv} (g : Grow W H μ W' H' μ') (h : SvRs K W μ.length v x) : SvRs K W' μ'.length v x := h.grow0 g.gr
theorem Sls.grow {K : PySem.W.Frag} {W W' : Wd} {H H' : Hp} {μ μ' : Mu} {σ : L2.St} {ρ : Rho} (g : Grow W H μ W' H' μ') (h : Sls K W μ.length σ ρ) : Sls K W' μ'.length σ ρ := h.grow0 g.gr
section
variable {K : PySem.W.Frag} {W : Wd} {H : Hp} {μ : Mu} {p : Addr} {o : HO}
theorem grow_share (R : Rel K W H μ) (hp : H p = none) : Grow W H μ (W.put p o) (upd H p o) μ := ⟨Wd.put_grow (R.free hp), fun a x h _ l => ⟨same_new hp a x h, by show upd W.S p o a = none; rw [upd_ne (ne_of_none h hp)]; exact l.1, l.2⟩⟩
theorem grow_alloc (R : Rel K W H μ) (hp : H p = none) {xs : List Sv} {ob : HO} : Grow W H μ (W.tag μ.length p) (upd H p ob) (μ ++ [.lst xs]) := by
  have hl : (μ ++ [MObj.lst xs]).length = μ.length + 1 := by simp
  refine ⟨by rw [hl]; exact Wd.tag_grow, fun a x h _ l => ⟨same_new hp a x h, l.1, fun t u e ha => ?_⟩⟩
  by_cases hi : t < μ.length
  · rw [List.getElem?_append_left hi] at e
    rw [Wd.tag_old hi]
    exact l.2 t u e ha
  · have hi2 : t < (μ ++ [MObj.lst xs]).length := (List.getElem?_eq_some_iff.mp e).1
    have : t = μ.length := by omega
    subst this
    rw [Wd.tag_self]
    exact (ne_of_none h hp).symm
theorem grow_write {t : Nat} {ys xs : List Sv} {ob : HO} (e : μ[t]? = some (.lst ys)) : Grow W H μ W (upd H (W.η t) ob) (μ.set t (.lst xs)) := by
  refine ⟨by rw [List.length_set]; exact Gr0.refl _ _, fun a x h _ l => ⟨?_, l.1, fun i u q ha => ?_⟩⟩
  · rw [upd_ne fun z => l.2 t _ e rfl z.symm]
    exact h
  · rcases at_set q with ⟨h1, h2⟩ | ⟨hi, q⟩
    · rw [h1]
      exact l.2 t _ e rfl
    · exact l.2 i u q ha
theorem grow_freeze {t : Nat} {ys : List Sv} {W' : Wd} (e : μ[t]? = some (.lst ys)) (g : Gr0 W μ.length W' μ.length) (he : W'.η = W.η) (hs : ∀ a, a ≠ W.η t → W'.S a = W.S a) : Grow W H μ W' H (μ.set t .gone) := by
  refine ⟨by rw [List.length_set]; exact g, fun a x h _ l => ⟨h, by rw [hs a fun z => l.2 t _ e rfl z.symm]; exact l.1, fun i u q ha => ?_⟩⟩
  rw [he]
  rcases at_set q with ⟨h1, h2⟩ | ⟨hi, q⟩
  · rw [h1]
    exact l.2 t _ e rfl
  · exact l.2 i u q ha
/-- an object that no tag owns and nobody shares, out of sight -/
def hideA (H : Hp) (D : Addr) : Hp := fun a => if a = D then none else H a
theorem hide_self {H : Hp} {D : Addr} : hideA H D D = none := if_pos rfl
theorem hide_ne {H : Hp} {D a : Addr} (h : a ≠ D) : hideA H D a = H a := if_neg h
theorem hide_upd {H : Hp} {D : Addr} (h : H D = some o) : upd (hideA H D) D o = H := by
  funext a
  by_cases ha : a = D
  · subst ha
    rw [upd_same, h]
  · rw [upd_ne ha, hide_ne ha]
theorem Rel.hide (R : Rel K W H μ) {D : Addr} {us : List V} (hD : H D = some (.lst us)) (l : Loose W μ D) : Rel K W (hideA H D) μ where
  sub := fun a x e => by
    rw [hide_ne fun z => by rw [z, l.1] at e; cases e]
    exact R.sub a x e
  obj := fun i ob e => by
    cases ob with
    | gone => trivial
    | lst xs =>
      obtain ⟨vs, h, r⟩ := R.obj i _ e
      exact ⟨vs, by rw [hide_ne (l.2 i _ e rfl)]; exact h, r⟩
  own := R.own
  inj := R.inj
  tab := fun pr hpr => by
    obtain ⟨ps, h1, h2, h3⟩ := R.tab pr hpr
    refine ⟨ps, by rw [hide_ne fun z => by rw [z, hD] at h1; cases h1]; exact h1, h2, fun pos cv hc => ?_⟩
    obtain ⟨c, e1, e2⟩ := h3 pos cv hc
    have nc : c ≠ D := fun z => by
      rw [z, hD] at e2
      unfold LamX.CodeO at e2
      cases e2
    exact ⟨c, e1, by rw [hide_ne nc]; exact e2⟩
  sm := by
    rcases R.sm with h | ⟨om, es, ep, h1, h2⟩
    · exact .inl h
    · exact .inr ⟨om, es, ep, by rw [hide_ne fun z => by rw [z, hD] at h1; cases h1]; exact h1, h2⟩
  nt := R.nt
/-- .. is written -/
theorem Rel.loose (R : Rel K W H μ) {D : Addr} {us : List V} (hD : H D = some (.lst us)) (l : Loose W μ D) : Rel K W (upd H D o) μ where
  sub := fun a x e => by
    rw [upd_ne fun z => by rw [z, l.1] at e; cases e]
    exact R.sub a x e
  obj := fun i ob e => by
    cases ob with
    | gone => trivial
    | lst xs =>
      obtain ⟨vs, h, r⟩ := R.obj i _ e
      exact ⟨vs, by rw [upd_ne (l.2 i _ e rfl)]; exact h, r⟩
  own := R.own
  inj := R.inj
  tab := tabs_upd R.tab hD
  sm := R.sm.upd hD
  nt := R.nt
theorem Grow.out {W' : Wd} {H' H2 : Hp} {μ' : Mu} {D : Addr} (g : Grow W H μ W' H' μ') (hD : H D = none) (h2 : ∀ a, a ≠ D → H2 a = H' a) : Grow W H μ W' H2 μ' :=
  ⟨g.gr, fun a x h n l => let ⟨h1, l1⟩ := g.frm a x h n l; ⟨by rw [h2 a (ne_of_none h hD)]; exact h1, l1⟩⟩
theorem Rel.fresh (R : Rel K W H μ) (hp : H p = none) : Loose W μ p := ⟨R.free hp, fun t ob e ha => by
  cases ob with
  | gone => cases ha
  | lst xs => exact R.apart hp e⟩
end
end Pf

namespace Pf
open PySem PySem.Spec PyProof.Rows L2

/-! ### the monad -/
structure Exc where
  C : Str
  fld : Option (Str × Sv)
inductive Res (α : Type) where
  | ok (a : α) (μ : Mu)
  | ex (c : Exc) (μ : Mu)
def M (α : Type) : Type := Mu → Option (Res α)
def M.ret {α : Type} (a : α) : M α := fun μ => some (.ok a μ)
def M.fail {α : Type} : M α := fun _ => none
def M.thr {α : Type} (c : Exc) : M α := fun μ => some (.ex c μ)
def M.bind {α β : Type} (m : M α) (k : α → M β) : M β := fun μ =>
  match m μ with
  | some (.ok a μ') => k a μ'
  | some (.ex c μ') => some (.ex c μ')
  | none => none
instance : Monad M where
  pure := M.ret
  bind := M.bind
theorem bind_def {α β : Type} (m : M α) (k : α → M β) : (m >>= k) = M.bind m k := rfl
theorem pure_def {α : Type} (a : α) : (pure a : M α) = M.ret a := rfl
theorem bind_ok {α β : Type} {m : M α} {k : α → M β} {μ μ' : Mu} {a : α} (h : m μ = some (.ok a μ')) : M.bind m k μ = k a μ' := by
  unfold M.bind
  rw [h]
theorem bind_ex {α β : Type} {m : M α} {k : α → M β} {μ μ' : Mu} {c : Exc} (h : m μ = some (.ex c μ')) : M.bind m k μ = some (.ex c μ') := by
  unfold M.bind
  rw [h]
theorem bind_some {α β : Type} {m : M α} {k : α → M β} {μ : Mu} {r : Res β} (h : M.bind m k μ = some r) :
    (∃ a μ1, m μ = some (.ok a μ1) ∧ k a μ1 = some r) ∨ ∃ c μ1, m μ = some (.ex c μ1) ∧ r = .ex c μ1 := by
  unfold M.bind at h
  cases e : m μ with
  | none =>
    rw [e] at h
    cases h
  | some x =>
    rw [e] at h
    cases x with
    | ok a μ1 => exact .inl ⟨a, μ1, rfl, h⟩
    | ex c μ1 =>
      cases h
      exact .inr ⟨c, μ1, rfl, rfl⟩

/-! ### what is wanted -/
def ExcR (K : PySem.W.Frag) (W : Wd) (n : Nat) (c : Exc) (cls : Value) (d : Option Addr) (H : Hp) : Prop :=
  (∃ C : Addr, PySem.W.nsIn K mainGlobals c.C = some (some (.ref C)) ∧ cls = .ref C) ∧ match c.fld with
    | none => d = none
    | some (f, s) => ∃ dd v, d = some dd ∧ H dd = some (.xd [(f, v)]) ∧ SvR K W n v s
def Ko {α : Type} (K : PySem.W.Frag) (E : XK) (W : Wd) (H : Hp) (μ : Mu) (r : Res α) (P : Wd → Hp → α → Mu → Prop) : Prop :=
  match r with
  | .ok a μ' => ∀ W' H', Grow W H μ W' H' μ' → Rel K W' H' μ' → P W' H' a μ'
  | .ex c μ' => ∀ W' H' cls d, Grow W H μ W' H' μ' → Rel K W' H' μ' → ExcR K W' μ'.length c cls d H' → E cls d H'
theorem Ko.later {α : Type} {K : PySem.W.Frag} {E : XK} {W W1 : Wd} {H H1 : Hp} {μ μ1 : Mu} {r : Res α} {P : Wd → Hp → α → Mu → Prop} (g : Grow W H μ W1 H1 μ1) (h : Ko K E W H μ r P) : Ko K E W1 H1 μ1 r P := by
  cases r with
  | ok a μ' => exact fun W' H' g' R => h W' H' (g.trans g') R
  | ex c μ' => exact fun W' H' cls d g' R x => h W' H' cls d (g.trans g') R x
structure Here (K : PySem.W.Frag) (W : Wd) (σ : L2.St) (H : Hp) (ρ : Rho) (μ : Mu) : Prop where
  rel : Rel K W H μ
  sl : Sls K W μ.length σ ρ
theorem Here.next {K : PySem.W.Frag} {W W' : Wd} {σ : L2.St} {H H' : Hp} {ρ : Rho} {μ μ' : Mu} (h : Here K W σ H ρ μ) (g : Grow W H μ W' H' μ') (R : Rel K W' H' μ') : Here K W' σ H' ρ μ' := ⟨R, h.sl.grow g⟩
/-- the end of an expression -/
abbrev KoV (K : PySem.W.Frag) (E : XK) (W : Wd) (H : Hp) (μ : Mu) (r : Res Sv) (Q : VK) : Prop := Ko K E W H μ r fun W' H' s μ' => ∀ v, SvR K W' μ'.length v s → Q v H'
def tX (K : PySem.W.Frag) (E : XK) (F : Rho → M Sv) : TE := fun σ H Q => ∃ W ρ μ r, Here K W σ H ρ μ ∧ F ρ μ = some r ∧ KoV K E W H μ r Q
abbrev PX (X : Cx) (E : XK) (e : Expr) (F : Rho → M Sv) : Prop := PE X e (tX X.K E F)
def tT (K : PySem.W.Frag) (E : XK) (F : Rho → M Bool) : TT := fun σ H Q => ∃ W ρ μ r, Here K W σ H ρ μ ∧ F ρ μ = some r ∧ Ko K E W H μ r fun W' H' b μ' => Q b H'
abbrev PTX (X : Cx) (E : XK) (e : Expr) (F : Rho → M Bool) : Prop := PT X e (tT X.K E F)
def tAr (K : PySem.W.Frag) (E : XK) (F : Rho → M (List Sv)) : TA := fun σ H Q => ∃ W ρ μ r, Here K W σ H ρ μ ∧ F ρ μ = some r ∧ Ko K E W H μ r fun W' H' ss μ' => ∀ vs, SvRs K W' μ'.length vs ss → Q vs H'
abbrev PAX (X : Cx) (E : XK) (es : List Expr) (F : Rho → M (List Sv)) : Prop := PA X es (tAr X.K E F)
theorem pe_weak {X : Cx} {e : Expr} {t t' : TE} (h : PE X e t) (w : ∀ σ H Q, t' σ H Q → t σ H Q) : PE X e t' := ⟨fun pins s σ H Q I q => h.run pins s σ H Q I (w _ _ _ q)⟩
theorem pt_weak {X : Cx} {e : Expr} {t t' : TT} (h : PT X e t) (w : ∀ σ H Q, t' σ H Q → t σ H Q) : PT X e t' := ⟨fun pins s σ H Q I q => h.run pins s σ H Q I (w _ _ _ q)⟩
theorem pa_weak {X : Cx} {e : List Expr} {t t' : TA} (h : PA X e t) (w : ∀ σ H Q, t' σ H Q → t σ H Q) : PA X e t' := ⟨fun pos pins s σ H Q I q => h.run pos pins s σ H Q I (w _ _ _ q)⟩
theorem ps_weak {X : Cx} {e : Stmt} {t t' : TS} (h : PS X e t) (w : ∀ D σ H, t' D σ H → t D σ H) : PS X e t' := ⟨fun pins s σ H D I q => h.run pins s σ H D I (w _ _ _ q)⟩
theorem pss_weak {X : Cx} {e : List Stmt} {t t' : TS} (h : PSs X e t) (w : ∀ D σ H, t' D σ H → t D σ H) : PSs X e t' := ⟨fun pins s σ H D I q => h.run pins s σ H D I (w _ _ _ q)⟩

section
variable {K : PySem.W.Frag} {E : XK} {W : Wd} {σ : L2.St} {H : Hp} {ρ : Rho} {μ : Mu} {α : Type}
theorem tX_bind {F : Rho → M Sv} {k : Sv → M α} {r : Res α} {P : Wd → Hp → α → Mu → Prop} {Q : VK} (h : Here K W σ H ρ μ) (e : M.bind (F ρ) k μ = some r) (q : Ko K E W H μ r P)
    (step : ∀ v s W1 H1 μ1, Grow W H μ W1 H1 μ1 → Here K W1 σ H1 ρ μ1 → SvR K W1 μ1.length v s → k s μ1 = some r → Ko K E W1 H1 μ1 r P → Q v H1) : tX K E F σ H Q := by
  rcases bind_some e with ⟨a, μ1, e1, e2⟩ | ⟨c, μ1, e1, rfl⟩
  · exact ⟨W, ρ, μ, _, h, e1, fun W1 H1 g R v hv => step v a W1 H1 μ1 g (h.next g R) hv e2 (q.later g)⟩
  · exact ⟨W, ρ, μ, _, h, e1, q⟩
theorem tT_bind {F : Rho → M Bool} {k : Bool → M α} {r : Res α} {P : Wd → Hp → α → Mu → Prop} {Q : Bool → Hp → Prop} (h : Here K W σ H ρ μ) (e : M.bind (F ρ) k μ = some r) (q : Ko K E W H μ r P)
    (step : ∀ b W1 H1 μ1, Grow W H μ W1 H1 μ1 → Here K W1 σ H1 ρ μ1 → k b μ1 = some r → Ko K E W1 H1 μ1 r P → Q b H1) : tT K E F σ H Q := by
  rcases bind_some e with ⟨a, μ1, e1, e2⟩ | ⟨c, μ1, e1, rfl⟩
  · exact ⟨W, ρ, μ, _, h, e1, fun W1 H1 g R => step a W1 H1 μ1 g (h.next g R) e2 (q.later g)⟩
  · exact ⟨W, ρ, μ, _, h, e1, q⟩
theorem tAr_bind {F : Rho → M (List Sv)} {k : List Sv → M α} {r : Res α} {P : Wd → Hp → α → Mu → Prop} {Q : List V → Hp → Prop} (h : Here K W σ H ρ μ) (e : M.bind (F ρ) k μ = some r) (q : Ko K E W H μ r P)
    (step : ∀ vs ss W1 H1 μ1, Grow W H μ W1 H1 μ1 → Here K W1 σ H1 ρ μ1 → SvRs K W1 μ1.length vs ss → k ss μ1 = some r → Ko K E W1 H1 μ1 r P → Q vs H1) : tAr K E F σ H Q := by
  rcases bind_some e with ⟨a, μ1, e1, e2⟩ | ⟨c, μ1, e1, rfl⟩
  · exact ⟨W, ρ, μ, _, h, e1, fun W1 H1 g R v hv => step v a W1 H1 μ1 g (h.next g R) hv e2 (q.later g)⟩
  · exact ⟨W, ρ, μ, _, h, e1, q⟩
end

/-! ### names, constants -/
def slot (i : Nat) (ρ : Rho) : M Sv := match ρ[i]? with
  | some (some s) => M.ret s
  | _ => M.fail
theorem slot_some {i : Nat} {ρ : Rho} {μ : Mu} {r : Res Sv} (h : slot i ρ μ = some r) : ∃ s, ρ[i]? = some (some s) ∧ r = .ok s μ := by
  unfold slot at h
  cases e : ρ[i]? with
  | none =>
    rw [e] at h
    cases h
  | some o =>
    rw [e] at h
    cases o with
    | none => cases h
    | some s =>
      cases h
      exact ⟨s, rfl, rfl⟩
def con (d : PyData) (ρ : Rho) : M Sv := M.ret (.dat d)
section
variable {X : Cx} {E : XK}
theorem x_name (i : Nat) {x : Str} {pos : Pos} (hN : X.N[i]? = some x := by rfl) (hv : Vis X.env.scope x := by first | exact Or.inl rfl | exact Or.inr (Or.inl rfl) | exact Or.inr (Or.inr rfl)) (hd : (x == ("__debug__" : Str)) = false := by decide)
    (hcd : (x == ("__classdict__" : Str)) = false := by decide) : PX X E (.Name x pos) (slot i) := pe_weak (pe_var hN hv hd hcd) fun σ H Q ⟨W, ρ, μ, r, h, e, q⟩ => by
  obtain ⟨s, hs, rfl⟩ := slot_some e
  obtain ⟨v, h1, h2⟩ := h.sl.at_ i s hs
  exact ⟨v, h1, q _ _ (Grow.refl _ _ _) h.rel _ h2⟩
theorem x_con {e : Expr} {v : V} {d : PyData} (h : PE X e (tC v)) (hd : ∀ H, Dq X.K H v d) : PX X E e (con d) := pe_weak h fun σ H Q ⟨W, ρ, μ, r, h, e, q⟩ => by
  cases e
  exact q _ _ (Grow.refl _ _ _) h.rel _ (hd _)
theorem x_int {i j pos} : PX X E (.Constant (.int i) j pos) (con (.int i)) := x_con pe_int fun _ => .int i
theorem x_bl {b j pos} : PX X E (.Constant (.bool b) j pos) (con (.bool b)) := x_con pe_bl fun _ => .bl b
theorem x_non {j pos} : PX X E (.Constant .none j pos) (con .none) := x_con pe_non fun _ => .non
theorem x_str {x j pos} : PX X E (.Constant (.str x) j pos) (con (.str x)) := x_con pe_str fun _ => .str x
theorem x_gint {x : Str} {i : Int} {u : Value} {pos : Pos} (hg : Gl X x) (hm : X.mg x = some u) (r : RelV (.int i) u) (hd : (x == ("__debug__" : Str)) = false := by decide) : PX X E (.Name x pos) (con (.int i)) := x_con (pe_glob hg hm r hd) fun _ => .int i

/-! ### operators by values -/
def rO2 (K : PySem.W.Frag) (E : XK) (op : Sv → Sv → M Sv) : R2 := fun x y H Q => ∃ W μ a b r, Rel K W H μ ∧ SvR K W μ.length x a ∧ SvR K W μ.length y b ∧ op a b μ = some r ∧ KoV K E W H μ r Q
theorem opr_weak {f : Value → Value → Sem Value} {r r' : R2} (h : OpR X f r) (w : ∀ x y H Q, r' x y H Q → r x y H Q) : OpR X f r' := fun pins s σ H x y v u Q I rx ry q => h pins s σ H x y v u Q I rx ry (w _ _ _ _ q)
theorem ixr_weak {r r' : R2} (h : IxR X r) (w : ∀ x y H Q, r' x y H Q → r x y H Q) : IxR X r' := fun a b pins s σ H x y v u Q I rx ry q => h a b pins s σ H x y v u Q I rx ry (w _ _ _ _ q)
def bin (op : Sv → Sv → M Sv) (Fa Fb : Rho → M Sv) (ρ : Rho) : M Sv := (Fa ρ).bind fun a => (Fb ρ).bind fun b => op a b
theorem bin_ent {K : PySem.W.Frag} {op : Sv → Sv → M Sv} {Fa Fb : Rho → M Sv} {σ : L2.St} {H : Hp} {Q : VK} (h : tX K E (bin op Fa Fb) σ H Q) : tOp (rO2 K E op) (tX K E Fa) (tX K E Fb) σ H Q := by
  obtain ⟨W, ρ, μ, r, h, e, q⟩ := h
  refine tX_bind h e q fun v a W1 H1 μ1 g1 h1 ra e1 q1 => tX_bind h1 e1 q1 fun u b W2 H2 μ2 g2 h2 rb e2 q2 => ?_
  exact ⟨W2, μ2, a, b, r, h2.rel, ra.grow g2, rb, e2, q2⟩
variable {a b c : Expr} {Fa Fb Fc : Rho → M Sv} {op op' : Sv → Sv → M Sv} {pos : Pos}
theorem x_bin {o : Operator} (ho : OpR X (binaryOp o) (rO2 X.K E op)) (ha : PX X E a Fa) (hb : PX X E b Fb) : PX X E (.BinOp a o b pos) (bin op Fa Fb) := pe_weak (pe_op ho ha hb) fun _ _ _ h => bin_ent h
theorem x_cmp {o : CmpOp} (ho : OpR X (compareOp o) (rO2 X.K E op)) (ha : PX X E a Fa) (hb : PX X E b Fb) (hm : behindInMarks o b = false := by first | exact nobehind _ (by decide) (by decide) | rfl) : PX X E (.Compare a [o] [b] pos) (bin op Fa Fb) :=
  pe_weak (pe_cmpR ho ha hb hm) fun _ _ _ h => bin_ent h
theorem x_ix (ho : IxR X (rO2 X.K E op)) (ha : PX X E a Fa) (hb : PX X E b Fb) (hs : PlainIx b := by intro _ _; rfl) : PX X E (.Subscript a b pos) (bin op Fa Fb) := pe_weak (pe_ix ho ha hb hs) fun _ _ _ h => bin_ent h
/-- a bool out of a value that is one -/
def asB (s : Sv) : M Bool := match s with
  | .dat (.bool b) => M.ret b
  | _ => M.fail
theorem asB_some {s : Sv} {μ : Mu} {r : Res Bool} (h : asB s μ = some r) : ∃ b, s = .dat (.bool b) ∧ r = .ok b μ := by
  unfold asB at h
  split at h
  · cases h
    exact ⟨_, rfl, rfl⟩
  · cases h
def chain (op op' : Sv → Sv → M Sv) (Fa Fb Fc : Rho → M Sv) (ρ : Rho) : M Sv := (Fa ρ).bind fun a => (Fb ρ).bind fun b => (op a b).bind fun z => (asB z).bind fun k => if k = true then (Fc ρ).bind fun c => op' b c else M.ret (.dat (.bool false))
theorem ob_bind {α : Type} {K : PySem.W.Frag} {W : Wd} {μ : Mu} {H : Hp} {x y : V} {a b : Sv} {k : Sv → M α} {r : Res α} {P : Wd → Hp → α → Mu → Prop} {Q : VK} (R : Rel K W H μ) (ra : SvR K W μ.length x a) (rb : SvR K W μ.length y b)
    (e : M.bind (op a b) k μ = some r) (q : Ko K E W H μ r P)
    (step : ∀ v s W1 H1 μ1, Grow W H μ W1 H1 μ1 → Rel K W1 H1 μ1 → SvR K W1 μ1.length v s → k s μ1 = some r → Ko K E W1 H1 μ1 r P → Q v H1) : rO2 K E op x y H Q := by
  rcases bind_some e with ⟨z, μ1, e1, e2⟩ | ⟨c, μ1, e1, rfl⟩
  · exact ⟨W, μ, a, b, _, R, ra, rb, e1, fun W1 H1 g R1 v hv => step v z W1 H1 μ1 g R1 hv e2 (q.later g)⟩
  · exact ⟨W, μ, a, b, _, R, ra, rb, e1, q⟩
theorem chain_ent {K : PySem.W.Frag} {σ : L2.St} {H : Hp} {Q : VK} (h : tX K E (chain op op' Fa Fb Fc) σ H Q) : tChain (rO2 K E op) (rO2 K E op') (tX K E Fa) (tX K E Fb) (tX K E Fc) σ H Q := by
  obtain ⟨W, ρ, μ, r, h, e, q⟩ := h
  refine tX_bind h e q fun v a W1 H1 μ1 g1 h1 ra e1 q1 => tX_bind h1 e1 q1 fun u b W2 H2 μ2 g2 h2 rb e2 q2 => ?_
  refine ob_bind h2.rel (ra.grow g2) rb e2 q2 fun z s W3 H3 μ3 g3 R3 rz e3 q3 => ?_
  rcases bind_some e3 with ⟨k, μ4, e4, e5⟩ | ⟨c, μ4, e4, rfl⟩
  · obtain ⟨k', rfl, ek⟩ := asB_some e4
    cases ek
    cases rz
    refine ⟨k, rfl, ?_⟩
    cases k with
    | false =>
      rw [if_neg Bool.false_ne_true]
      rw [if_neg Bool.false_ne_true] at e5
      cases e5
      exact q3 _ _ (Grow.refl _ _ _) R3 _ (.bl false)
    | true =>
      rw [if_pos rfl]
      rw [if_pos rfl] at e5
      exact tX_bind (h2.next g3 R3) e5 q3 fun w c W5 H5 μ5 g5 h5 rc e6 q6 => ⟨W5, μ5, b, c, r, h5.rel, (rb.grow g3).grow g5, rc, e6, q6⟩
  · obtain ⟨_, _, z⟩ := asB_some e4
    cases z
theorem x_chain {o o' : CmpOp} (ho : OpR X (compareOp o) (rO2 X.K E op)) (ho' : OpR X (compareOp o') (rO2 X.K E op')) (ha : PX X E a Fa) (hb : PX X E b Fb) (hc : PX X E c Fc)
    (hm : lastMarks [o, o'] [b, c] = false := by with_unfolding_all rfl) : PX X E (.Compare a [o, o'] [b, c] pos) (chain op op' Fa Fb Fc) := pe_weak (pe_chain ho ho' ha hb hc hm) fun _ _ _ h => chain_ent h

/-! ### and, or, not, if: values that are bools -/
def andV (Fa Fb : Rho → M Sv) (ρ : Rho) : M Sv := (Fa ρ).bind fun a => (asB a).bind fun k => if k = true then Fb ρ else M.ret (.dat (.bool false))
def orV (Fa Fb : Rho → M Sv) (ρ : Rho) : M Sv := (Fa ρ).bind fun a => (asB a).bind fun k => if k = true then M.ret (.dat (.bool true)) else Fb ρ
def notV (Fa : Rho → M Sv) (ρ : Rho) : M Sv := (Fa ρ).bind fun a => (asB a).bind fun k => M.ret (.dat (.bool (!k)))
theorem asB_bind {α : Type} {s : Sv} {k : Bool → M α} {μ : Mu} {r : Res α} (h : M.bind (asB s) k μ = some r) : ∃ b, s = .dat (.bool b) ∧ k b μ = some r := by
  rcases bind_some h with ⟨b, μ4, e4, e5⟩ | ⟨c, μ4, e4, rfl⟩
  · obtain ⟨k', rfl, ek⟩ := asB_some e4
    cases ek
    exact ⟨_, rfl, e5⟩
  · obtain ⟨_, _, z⟩ := asB_some e4
    cases z
theorem x_one {o} (h : PX X E a Fa) : PX X E (.BoolOp o [a] pos) Fa := pe_one h
theorem x_and {rest : List Expr} (ha : PX X E a Fa) (hb : PX X E (.BoolOp .And (b :: rest) pos) Fb) : PX X E (.BoolOp .And (a :: b :: rest) pos) (andV Fa Fb) := pe_weak (pe_and ha hb) fun σ H Q ⟨W, ρ, μ, r, h, e, q⟩ => by
  refine tX_bind h e q fun v a W1 H1 μ1 g1 h1 ra e1 q1 => ?_
  obtain ⟨k, rfl, e2⟩ := asB_bind e1
  cases ra
  refine ⟨k, rfl, ?_⟩
  cases k with
  | false =>
    rw [if_neg Bool.false_ne_true] at e2 ⊢
    cases e2
    exact q1 _ _ (Grow.refl _ _ _) h1.rel _ (.bl false)
  | true =>
    rw [if_pos rfl] at e2 ⊢
    exact ⟨W1, ρ, μ1, r, h1, e2, q1⟩
theorem x_or {rest : List Expr} (ha : PX X E a Fa) (hb : PX X E (.BoolOp .Or (b :: rest) pos) Fb) : PX X E (.BoolOp .Or (a :: b :: rest) pos) (orV Fa Fb) := pe_weak (pe_or ha hb) fun σ H Q ⟨W, ρ, μ, r, h, e, q⟩ => by
  refine tX_bind h e q fun v a W1 H1 μ1 g1 h1 ra e1 q1 => ?_
  obtain ⟨k, rfl, e2⟩ := asB_bind e1
  cases ra
  refine ⟨k, rfl, ?_⟩
  cases k with
  | true =>
    rw [if_pos rfl] at e2 ⊢
    cases e2
    exact q1 _ _ (Grow.refl _ _ _) h1.rel _ (.bl true)
  | false =>
    rw [if_neg Bool.false_ne_true] at e2 ⊢
    exact ⟨W1, ρ, μ1, r, h1, e2, q1⟩
theorem x_not (ha : PX X E a Fa) : PX X E (.UnaryOp .Not a pos) (notV Fa) := pe_weak (pe_not ha) fun σ H Q ⟨W, ρ, μ, r, h, e, q⟩ => by
  refine tX_bind h e q fun v a W1 H1 μ1 g1 h1 ra e1 q1 => ?_
  obtain ⟨k, rfl, e2⟩ := asB_bind e1
  cases ra
  cases e2
  exact ⟨k, rfl, q1 _ _ (Grow.refl _ _ _) h1.rel _ (.bl _)⟩
def ifV (F : Rho → M Bool) (Fa Fb : Rho → M Sv) (ρ : Rho) : M Sv := (F ρ).bind fun k => if k = true then Fa ρ else Fb ρ
theorem x_if {F : Rho → M Bool} (hc : PTX X E c F) (ha : PX X E a Fa) (hb : PX X E b Fb) : PX X E (.IfExp c a b pos) (ifV F Fa Fb) := pe_weak (pe_ifExp hc ha hb) fun σ H Q ⟨W, ρ, μ, r, h, e, q⟩ => by
  refine tT_bind h e q fun k W1 H1 μ1 g1 h1 e1 q1 => ?_
  cases k with
  | false =>
    rw [if_neg Bool.false_ne_true] at e1 ⊢
    exact ⟨W1, ρ, μ1, r, h1, e1, q1⟩
  | true =>
    rw [if_pos rfl] at e1 ⊢
    exact ⟨W1, ρ, μ1, r, h1, e1, q1⟩

/-! ### tests -/
def tst (F : Rho → M Sv) (ρ : Rho) : M Bool := (F ρ).bind asB
theorem t_val (h : PX X E a Fa) (he : ∀ whole, isTrue a X.env whole = (do let v ← whole; standAt a.pos; holding [v] (truthy v)) := by intro _; rfl) : PTX X E a (tst Fa) := pt_weak (pt_val h he) fun σ H Q ⟨W, ρ, μ, r, h, e, q⟩ => by
  refine tX_bind h e q fun v a W1 H1 μ1 g1 h1 ra e1 q1 => ?_
  obtain ⟨b, rfl, rfl⟩ := asB_some e1
  cases ra
  exact ⟨b, rfl, q1 W1 H1 (Grow.refl _ _ _) h1.rel⟩
theorem tst_ent {K : PySem.W.Frag} {σ : L2.St} {H : Hp} {Q : Bool → Hp → Prop} (h : tT K E (tst (bin op Fa Fb)) σ H Q) : tTest (tOp (rO2 K E op) (tX K E Fa) (tX K E Fb)) σ H Q := by
  obtain ⟨W, ρ, μ, r, h, e, q⟩ := h
  refine bin_ent ?_
  refine tX_bind h e q fun v a W1 H1 μ1 g1 h1 ra e1 q1 => ?_
  obtain ⟨b, rfl, rfl⟩ := asB_some e1
  cases ra
  exact ⟨b, rfl, q1 W1 H1 (Grow.refl _ _ _) h1.rel⟩
theorem t_cmp {o : CmpOp} (ho : OpR X (compareOp o) (rO2 X.K E op)) (ha : PX X E a Fa) (hb : PX X E b Fb) (hm : behindInMarks o b = false := by first | exact nobehind _ (by decide) (by decide) | rfl) : PTX X E (.Compare a [o] [b] pos) (tst (bin op Fa Fb)) :=
  pt_weak (pt_cmpR ho ha hb hm) fun _ _ _ h => tst_ent h
theorem t_chain {o o' : CmpOp} (ho : OpR X (compareOp o) (rO2 X.K E op)) (ho' : OpR X (compareOp o') (rO2 X.K E op')) (ha : PX X E a Fa) (hb : PX X E b Fb) (hc : PX X E c Fc)
    (hm : lastMarks [o, o'] [b, c] = false := by with_unfolding_all rfl) : PTX X E (.Compare a [o, o'] [b, c] pos) (tst (chain op op' Fa Fb Fc)) := pt_weak (pt_chain ho ho' ha hb hc hm) fun σ H Q ⟨W, ρ, μ, r, h, e, q⟩ => by
  refine chain_ent ?_
  refine tX_bind h e q fun v a W1 H1 μ1 g1 h1 ra e1 q1 => ?_
  obtain ⟨b, rfl, rfl⟩ := asB_some e1
  cases ra
  exact ⟨b, rfl, q1 W1 H1 (Grow.refl _ _ _) h1.rel⟩
def notT (F : Rho → M Bool) (ρ : Rho) : M Bool := (F ρ).bind fun k => M.ret (!k)
def andT (F G : Rho → M Bool) (ρ : Rho) : M Bool := (F ρ).bind fun k => if k = true then G ρ else M.ret false
def orT (F G : Rho → M Bool) (ρ : Rho) : M Bool := (F ρ).bind fun k => if k = true then M.ret true else G ρ
theorem t_not {F : Rho → M Bool} (ha : PTX X E a F) : PTX X E (.UnaryOp .Not a pos) (notT F) := pt_weak (pt_not ha) fun σ H Q ⟨W, ρ, μ, r, h, e, q⟩ => by
  refine tT_bind h e q fun k W1 H1 μ1 g1 h1 e1 q1 => ?_
  cases e1
  exact q1 W1 H1 (Grow.refl _ _ _) h1.rel
abbrev PWX (X : Cx) (E : XK) (e : Expr) (F : Rho → M Bool) : Prop := PW X e (tT X.K E F)
theorem pw_weak {X : Cx} {e : Expr} {t t' : TT} (h : PW X e t) (w : ∀ σ H Q, t' σ H Q → t σ H Q) : PW X e t' := ⟨fun wh pins s σ H Q I q => h.run wh pins s σ H Q I (w _ _ _ q)⟩
theorem w_and1 {F : Rho → M Bool} (ha : PTX X E a F) : PWX X E (.BoolOp .And [a] pos) F := pw_and1 ha
theorem w_or1 {F : Rho → M Bool} (ha : PTX X E a F) : PWX X E (.BoolOp .Or [a] pos) F := pw_or1 ha
theorem w_and {F G : Rho → M Bool} {rest : List Expr} (ha : PTX X E a F) (hb : PWX X E (.BoolOp .And (b :: rest) pos) G) : PWX X E (.BoolOp .And (a :: b :: rest) pos) (andT F G) := pw_weak (pw_and ha hb) fun σ H Q ⟨W, ρ, μ, r, h, e, q⟩ => by
  refine tT_bind h e q fun k W1 H1 μ1 g1 h1 e1 q1 => ?_
  cases k with
  | false =>
    rw [if_neg Bool.false_ne_true] at e1 ⊢
    cases e1
    exact q1 W1 H1 (Grow.refl _ _ _) h1.rel
  | true =>
    rw [if_pos rfl] at e1 ⊢
    exact ⟨W1, ρ, μ1, r, h1, e1, q1⟩
theorem w_or {F G : Rho → M Bool} {rest : List Expr} (ha : PTX X E a F) (hb : PWX X E (.BoolOp .Or (b :: rest) pos) G) : PWX X E (.BoolOp .Or (a :: b :: rest) pos) (orT F G) := pw_weak (pw_or ha hb) fun σ H Q ⟨W, ρ, μ, r, h, e, q⟩ => by
  refine tT_bind h e q fun k W1 H1 μ1 g1 h1 e1 q1 => ?_
  cases k with
  | true =>
    rw [if_pos rfl] at e1 ⊢
    cases e1
    exact q1 W1 H1 (Grow.refl _ _ _) h1.rel
  | false =>
    rw [if_neg Bool.false_ne_true] at e1 ⊢
    exact ⟨W1, ρ, μ1, r, h1, e1, q1⟩
theorem t_w {e : Expr} {F : Rho → M Bool} (h : PWX X E e F) : PTX X E e F := h.pt
end
end Pf

namespace Pf
open PySem PySem.Spec PyProof.Rows L2

/-! ### reading lists, laying new ones -/
/-- the items of a list (or tuple) value -/
def lsOf (s : Sv) : M (List Sv) := fun μ => match s with
  | .dat (.list ds) => some (.ok (ds.map Sv.dat) μ)
  | .ref t => match μ[t]? with
    | some (.lst xs) => some (.ok xs μ)
    | _ => none
  | _ => none
/-- a value as data, by reading -/
def rd (s : Sv) : M PyData := fun μ => match s with
  | .dat d => some (.ok d μ)
  | .ref t => match μ[t]? with
    | some (.lst xs) => (dats xs).map fun ds => .ok (.list ds) μ
    | _ => none
  | _ => none
/-- a new list: with a tag (it may be written), or as data -/
def mkl (m : Bool) (xs : List Sv) : M Sv := fun μ => match m with
  | true => some (.ok (.ref μ.length) (μ ++ [.lst xs]))
  | false => (dats xs).map fun ds => .ok (.dat (.list ds)) μ
def mkt (xs : List Sv) : M Sv := fun μ => (dats xs).map fun ds => .ok (.dat (.tuple ds)) μ
section
variable {K : PySem.W.Frag} {E : XK} {W : Wd} {H : Hp} {μ : Mu}
theorem lsOf_rel {s : Sv} {v : V} {r : Res (List Sv)} (R : Rel K W H μ) (h : SvR K W μ.length v s) (e : lsOf s μ = some r) : ∃ a vs xs, v = .ref a ∧ H a = some (.lst vs) ∧ SvRs K W μ.length vs xs ∧ r = .ok xs μ := by
  cases s with
  | dat d =>
    cases d with
    | list ds =>
      cases h with
      | lst h r =>
        cases e
        exact ⟨_, _, _, rfl, R.sub _ _ h, rel_dats r, rfl⟩
    | _ => cases e
  | ref t =>
    obtain ⟨_, rfl⟩ := h
    unfold lsOf at e
    cases q : μ[t]? with
    | none =>
      simp only [q] at e
      cases e
    | some o =>
      cases o with
      | gone =>
        simp only [q] at e
        cases e
      | lst xs =>
        simp only [q] at e
        cases e
        obtain ⟨vs, h1, h2⟩ := R.obj t _ q
        exact ⟨_, vs, xs, rfl, h1, h2, rfl⟩
  | scr ns => cases e
theorem rd_rel {s : Sv} {v : V} {r : Res PyData} (R : Rel K W H μ) (h : SvR K W μ.length v s) (e : rd s μ = some r) : ∃ d, r = .ok d μ ∧ Dq K H v d := by
  cases s with
  | dat d =>
    cases e
    exact ⟨d, rfl, Dq.mono R.sub h⟩
  | ref t =>
    obtain ⟨_, rfl⟩ := h
    unfold rd at e
    cases q : μ[t]? with
    | none =>
      simp only [q] at e
      cases e
    | some o =>
      cases o with
      | gone =>
        simp only [q] at e
        cases e
      | lst xs =>
        simp only [q] at e
        cases w : dats xs with
        | none =>
          rw [w] at e
          cases e
        | some ds =>
          rw [w] at e
          cases e
          obtain ⟨vs, h1, h2⟩ := R.obj t _ q
          exact ⟨_, rfl, .lst h1 (Dqs.mono R.sub (dats_rel h2 w))⟩
  | scr ns => cases e
theorem mkl_ok {m : Bool} {xs : List Sv} {vs : List V} {p : Addr} {r : Res Sv} {Q : VK} (R : Rel K W H μ) (hp : H p = none) (h : SvRs K W μ.length vs xs) (e : mkl m xs μ = some r) (q : KoV K E W H μ r Q) : Q (.ref p) (upd H p (.lst vs)) := by
  cases m with
  | true =>
    cases e
    have hl : (μ ++ [MObj.lst xs]).length = μ.length + 1 := by simp
    exact q _ _ (grow_alloc R hp) (R.alloc hp h) _ ⟨by omega, by rw [Wd.tag_self]⟩
  | false =>
    have e' : (dats xs).map (fun ds => Res.ok (Sv.dat (.list ds)) μ) = some r := e
    cases w : dats xs with
    | none =>
      rw [w] at e'
      cases e'
    | some ds =>
      rw [w] at e'
      cases e'
      have g : Grow W H μ (W.put p (.lst vs)) (upd H p (.lst vs)) μ := grow_share R hp
      exact q _ _ g (R.share hp) _ (.lst upd_same (Dqs.mono g.same (dats_rel h w)))
theorem mkt_ok {xs : List Sv} {vs : List V} {p : Addr} {r : Res Sv} {Q : VK} (R : Rel K W H μ) (hp : H p = none) (h : SvRs K W μ.length vs xs) (e : mkt xs μ = some r) (q : KoV K E W H μ r Q) : Q (.ref p) (upd H p (.tup vs)) := by
  have e' : (dats xs).map (fun ds => Res.ok (Sv.dat (.tuple ds)) μ) = some r := e
  cases w : dats xs with
  | none =>
    rw [w] at e'
    cases e'
  | some ds =>
    rw [w] at e'
    cases e'
    have g : Grow W H μ (W.put p (.tup vs)) (upd H p (.tup vs)) μ := grow_share R hp
    exact q _ _ g (R.share hp) _ (.tup (SqT.of upd_same) (Dqs.mono g.same (dats_rel h w)))
theorem dq_tup (R : Rel K W H μ) {p : Addr} {vs : List V} {ds : List PyData} {r : Res Sv} {Q : VK} (hp : H p = none) (h : Dqs K W.S vs ds) (e : (M.ret (.dat (.tuple ds)) : M Sv) μ = some r) (q : KoV K E W H μ r Q) : Q (.ref p) (upd H p (.tup vs)) := by
  cases e
  have g : Grow W H μ (W.put p (.tup vs)) (upd H p (.tup vs)) μ := grow_share R hp
  exact q _ _ g (R.share hp) _ (.tup (SqT.of upd_same) (Dqs.mono g.same h))
end

/-! ### data without dicts is the layer's -/
section
variable {K : PySem.W.Frag} {H : Hp}
mutual
theorem Dq.dp : ∀ {v : V} {d : PyData}, Dq K H v d → d.canLay0 = true → Dp K H v d
  | _, _, .non, _ => .non
  | _, _, .bl b, _ => .bl b
  | _, _, .int i, _ => .int i
  | _, _, .str x, _ => .str x
  | _, _, .lst h r, c => .lst (SqL.of h) (Dqs.dp r (by simpa [PyData.canLay0] using c))
  | _, _, .tup h r, c => .tup h (Dqs.dp r (by simpa [PyData.canLay0] using c))
  | _, _, .dct h r, c => by simp [PyData.canLay0] at c
theorem Dqs.dp : ∀ {v : List V} {d : List PyData}, Dqs K H v d → PyData.canLayAll0 d = true → DpAll K H v d
  | _, _, .nil, _ => .nil
  | _, d :: ds, .cons h r, c => by
    have c' : d.canLay0 = true ∧ PyData.canLayAll0 ds = true := by simpa [PyData.canLayAll0] using c
    exact .cons (Dq.dp h c'.1) (Dqs.dp r c'.2)
end
end

/-! ### the operators -/
def szOk (n : Nat) : Bool := decide (n ≤ 1000000)
theorem szOk_line {n : Nat} (h : szOk n = true) : n ≤ sizeLine := by
  have := of_decide_eq_true h
  rw [sizeLine_eq]
  omega
theorem szOk_lt {n : Nat} (h : szOk n = true) : n < sizeLine := by
  have := of_decide_eq_true h
  rw [sizeLine_eq]
  omega
def pAdd (m : Bool) (a b : Sv) : M Sv := match a, b with
  | .dat (.int i), .dat (.int j) => M.ret (.dat (.int (i + j)))
  | .dat (.tuple xs), .dat (.tuple ys) => if szOk (xs.length + ys.length) = true then M.ret (.dat (.tuple (xs ++ ys))) else M.fail
  | .dat (.str x), .dat (.str y) => if szOk (x.length + y.length) = true then M.ret (.dat (.str (x ++ y))) else M.fail
  | .dat (.list xs), b => (lsOf b).bind fun ys => if szOk (xs.length + ys.length) = true then mkl m (xs.map Sv.dat ++ ys) else M.fail
  | .ref t, b => (lsOf (.ref t)).bind fun xs => (lsOf b).bind fun ys => if szOk (xs.length + ys.length) = true then mkl m (xs ++ ys) else M.fail
  | _, _ => M.fail
def pSub (a b : Sv) : M Sv := match a, b with
  | .dat (.int i), .dat (.int j) => M.ret (.dat (.int (i - j)))
  | _, _ => M.fail
def small (i : Int) : Bool := decide (-(2 ^ 64) < i) && decide (i < 2 ^ 64)
def pMul (m : Bool) (a b : Sv) : M Sv := match a, b with
  | .dat (.int i), .dat (.int j) => if (small i || small j) = true then M.ret (.dat (.int (i * j))) else M.fail
  | .dat (.list xs), .dat (.int k) => if (small (2 * k) && szOk (xs.length * k.toNat)) = true then mkl m (List.replicate k.toNat (xs.map Sv.dat)).flatten else M.fail
  | _, _ => M.fail
def pFdiv (a b : Sv) : M Sv := match a, b with
  | .dat (.int i), .dat (.int j) => if (decide (0 < j) && decide (j < 1073741824)) = true then M.ret (.dat (.int (i / j))) else M.fail
  | _, _ => M.fail
def pMod (a b : Sv) : M Sv := match a, b with
  | .dat (.int i), .dat (.int j) => if decide (0 < j) = true then M.ret (.dat (.int (i % j))) else M.fail
  | _, _ => M.fail
def pPow (a b : Sv) : M Sv := match a, b with
  | .dat (.int i), .dat (.int j) => if (decide (0 ≤ j) && decide (j ≤ 1000000) && decide (i.natAbs < 2 ^ 64)) = true then M.ret (.dat (.int (i ^ j.toNat))) else M.fail
  | _, _ => M.fail
def pCmp (f : Int → Int → Bool) (a b : Sv) : M Sv := match a, b with
  | .dat (.int i), .dat (.int j) => M.ret (.dat (.bool (f i j)))
  | _, _ => M.fail
abbrev pLt := pCmp fun i j => decide (i < j)
abbrev pLe := pCmp fun i j => decide (i ≤ j)
abbrev pGt := pCmp fun i j => decide (j < i)
abbrev pGe := pCmp fun i j => decide (j ≤ i)
def pEqD (n : Bool) (a b : Sv) : M Sv := (rd a).bind fun d => (rd b).bind fun e => if (SeqAt.shaped d && SeqAt.shaped e) = true then M.ret (.dat (.bool (Bool.xor n (PyData.eqv d e)))) else M.fail
/-- == of two texts, of two ints; of other data -/
def pEqn (n : Bool) (a b : Sv) : M Sv := match a, b with
  | .dat (.str x), .dat (.str y) => M.ret (.dat (.bool (Bool.xor n (decide (x = y)))))
  | .dat (.int x), .dat (.int y) => M.ret (.dat (.bool (Bool.xor n (decide (x = y)))))
  | a, b => pEqD n a b
abbrev pEq := pEqn false
abbrev pNe := pEqn true
def isNon : Sv → Bool
  | .dat .none => true
  | _ => false
def pIs (n : Bool) (a b : Sv) : M Sv := match b with
  | .dat .none => M.ret (.dat (.bool (Bool.xor n (isNon a))))
  | _ => M.fail
def orFail {α : Type} (o : Option α) : M α := fun μ => o.map fun a => .ok a μ
def pIx (a b : Sv) : M Sv := match b with
  | .dat (.int i) => match a with
    | .dat (.tuple xs) => (orFail (atI xs i)).bind fun d => M.ret (.dat d)
    | .dat (.str z) => (orFail (if szOk z.length = true then atI z.cps.toList i else none)).bind fun c => M.ret (.dat (.str ⟨#[c]⟩))
    | a => (lsOf a).bind fun xs => orFail (atI xs i)
  | _ => M.fail
theorem iff_ok {α : Type} {c : Bool} {m : M α} {μ : Mu} {r : Res α} (h : (if c = true then m else M.fail) μ = some r) : c = true ∧ m μ = some r := by
  cases c with
  | true =>
    rw [if_pos rfl] at h
    exact ⟨rfl, h⟩
  | false =>
    rw [if_neg Bool.false_ne_true] at h
    cases h
theorem orFail_some {α β : Type} {o : Option α} {k : α → M β} {μ : Mu} {r : Res β} (h : M.bind (orFail o) k μ = some r) : ∃ a, o = some a ∧ k a μ = some r := by
  cases o with
  | none => cases h
  | some a => exact ⟨a, rfl, h⟩
theorem lsOf_bind {α : Type} {s : Sv} {k : List Sv → M α} {μ : Mu} {r : Res α} (h : M.bind (lsOf s) k μ = some r) : ∃ xs, lsOf s μ = some (.ok xs μ) ∧ k xs μ = some r := by
  rcases bind_some h with ⟨xs, μ1, e1, e2⟩ | ⟨c, μ1, e1, rfl⟩
  · have : μ1 = μ := by
      unfold lsOf at e1
      split at e1
      · cases e1; rfl
      · split at e1
        · cases e1; rfl
        · cases e1
      · cases e1
    subst this
    exact ⟨xs, e1, e2⟩
  · unfold lsOf at e1
    split at e1
    · cases e1
    · split at e1 <;> cases e1
    · cases e1
theorem rd_bind {α : Type} {s : Sv} {k : PyData → M α} {μ : Mu} {r : Res α} (h : M.bind (rd s) k μ = some r) : ∃ d, rd s μ = some (.ok d μ) ∧ k d μ = some r := by
  rcases bind_some h with ⟨d, μ1, e1, e2⟩ | ⟨c, μ1, e1, rfl⟩
  · have : μ1 = μ := by
      unfold rd at e1
      split at e1
      · cases e1; rfl
      · split at e1
        · rename_i xs _
          cases q : dats xs with
          | none => rw [q] at e1; cases e1
          | some ds => rw [q] at e1; cases e1; rfl
        · cases e1
      · cases e1
    subst this
    exact ⟨d, e1, e2⟩
  · unfold rd at e1
    split at e1
    · cases e1
    · split at e1
      · rename_i xs _
        cases q : dats xs with
        | none => rw [q] at e1; cases e1
        | some ds => rw [q] at e1; cases e1
      · cases e1
    · cases e1
section
variable {X : Cx} {E : XK}
theorem dq_int {K : PySem.W.Frag} {H : Hp} {v : V} {i : Int} (h : Dq K H v (.int i)) : v = .int i := by
  cases h
  rfl
theorem atI_rel {K : PySem.W.Frag} {H : Hp} {vs : List V} {ds : List PyData} {i : Int} {d : PyData} (h : Dqs K H vs ds) (e : atI ds i = some d) : ∃ v, atI vs i = some v ∧ Dq K H v d := by
  unfold atI at e ⊢
  rw [h.len]
  cases q : ixN ds.length i with
  | none =>
    rw [q] at e
    cases e
  | some j =>
    rw [q] at e
    obtain ⟨v, h1, h2⟩ := h.getD (i := j) e
    exact ⟨v, h1, h2⟩
theorem atI_rels {K : PySem.W.Frag} {W : Wd} {n : Nat} {vs : List V} {xs : List Sv} {i : Int} {x : Sv} (h : SvRs K W n vs xs) (e : atI xs i = some x) : ∃ v, atI vs i = some v ∧ SvR K W n v x := by
  unfold atI at e ⊢
  rw [h.len]
  cases q : ixN xs.length i with
  | none =>
    rw [q] at e
    cases e
  | some j =>
    rw [q] at e
    obtain ⟨v, h1, h2⟩ := h.get (i := j) e
    exact ⟨v, h1, h2⟩
theorem o_sub : OpR X (binaryOp .Sub) (rO2 X.K E pSub) := opr_weak op_sub fun x y H Q ⟨W, μ, a, b, r, R, ra, rb, e, q⟩ => by
  unfold pSub at e
  split at e
  · cases e
    exact ⟨_, _, dq_int ra, dq_int rb, q _ _ (Grow.refl _ _ _) R _ (.int _)⟩
  · cases e
theorem o_fdiv : OpR X (binaryOp .FloorDiv) (rO2 X.K E pFdiv) := opr_weak op_fdiv fun x y H Q ⟨W, μ, a, b, r, R, ra, rb, e, q⟩ => by
  unfold pFdiv at e
  split at e
  · obtain ⟨c, e⟩ := iff_ok e
    cases e
    have c' := Bool.and_eq_true_iff.mp c
    exact ⟨_, _, dq_int ra, dq_int rb, ⟨of_decide_eq_true c'.1, of_decide_eq_true c'.2⟩, q _ _ (Grow.refl _ _ _) R _ (.int _)⟩
  · cases e
theorem o_mod : OpR X (binaryOp .Mod) (rO2 X.K E pMod) := opr_weak op_mod fun x y H Q ⟨W, μ, a, b, r, R, ra, rb, e, q⟩ => by
  unfold pMod at e
  split at e
  · obtain ⟨c, e⟩ := iff_ok e
    cases e
    exact ⟨_, _, dq_int ra, dq_int rb, of_decide_eq_true c, q _ _ (Grow.refl _ _ _) R _ (.int _)⟩
  · cases e
theorem o_pow : OpR X (binaryOp .Pow) (rO2 X.K E pPow) := opr_weak op_pow fun x y H Q ⟨W, μ, a, b, r, R, ra, rb, e, q⟩ => by
  unfold pPow at e
  split at e
  · obtain ⟨c, e⟩ := iff_ok e
    cases e
    have c' := Bool.and_eq_true_iff.mp c
    have c2 := Bool.and_eq_true_iff.mp c'.1
    exact ⟨_, _, dq_int ra, dq_int rb, ⟨of_decide_eq_true c2.1, of_decide_eq_true c2.2, of_decide_eq_true c'.2⟩, q _ _ (Grow.refl _ _ _) R _ (.int _)⟩
  · cases e
theorem o_cmp {o : CmpOp} {f : Int → Int → Bool} (h : OpR X (compareOp o) (rI0 fun i j => .bl (f i j))) : OpR X (compareOp o) (rO2 X.K E (pCmp f)) := opr_weak h fun x y H Q ⟨W, μ, a, b, r, R, ra, rb, e, q⟩ => by
  unfold pCmp at e
  split at e
  · cases e
    exact ⟨_, _, dq_int ra, dq_int rb, q _ _ (Grow.refl _ _ _) R _ (.bl _)⟩
  · cases e
theorem o_lt : OpR X (compareOp .Lt) (rO2 X.K E pLt) := o_cmp op_lt
theorem o_le : OpR X (compareOp .LtE) (rO2 X.K E pLe) := o_cmp op_le
theorem o_gt : OpR X (compareOp .Gt) (rO2 X.K E pGt) := o_cmp op_gt
theorem o_ge : OpR X (compareOp .GtE) (rO2 X.K E pGe) := o_cmp op_ge
theorem eqn_ent {K : PySem.W.Frag} {n : Bool} {x y : V} {H : Hp} {Q : VK} (h : rO2 K E (pEqD n) x y H Q) : ∃ d e, Dp K H x d ∧ Dp K H y e ∧ SeqAt.shaped d = true ∧ SeqAt.shaped e = true ∧ Q (.bl (Bool.xor n (PyData.eqv d e))) H := by
  obtain ⟨W, μ, a, b, r, R, ra, rb, e, q⟩ := h
  obtain ⟨d, e1, e⟩ := rd_bind e
  obtain ⟨c, e2, e⟩ := rd_bind e
  obtain ⟨g, e⟩ := iff_ok e
  obtain ⟨g1, g2⟩ := Bool.and_eq_true_iff.mp g
  obtain ⟨d', z1, h1⟩ := rd_rel R ra e1
  obtain ⟨c', z2, h2⟩ := rd_rel R rb e2
  cases z1
  cases z2
  cases e
  exact ⟨d, c, h1.dp (SeqAt.canLay_of_shaped g1), h2.dp (SeqAt.canLay_of_shaped g2), g1, g2, q _ _ (Grow.refl _ _ _) R _ (.bl _)⟩
theorem eq_ent {K : PySem.W.Frag} {n : Bool} {x y : V} {H : Hp} {Q : VK} (h : rO2 K E (pEqn n) x y H Q) :
    (scal x y = true ∧ Q (.bl (Bool.xor n (decide (x = y)))) H) ∨ ∃ d e, Dp K H x d ∧ Dp K H y e ∧ SeqAt.shaped d = true ∧ SeqAt.shaped e = true ∧ Q (.bl (Bool.xor n (PyData.eqv d e))) H := by
  obtain ⟨W, μ, a, b, r, R, ra, rb, e, q⟩ := h
  unfold pEqn at e
  split at e
  · rename_i u v
    cases e
    cases ra
    cases rb
    refine .inl ⟨rfl, ?_⟩
    have z : decide (V.str u = V.str v) = decide (u = v) := by
      by_cases h : u = v
      · rw [h]
        simp
      · rw [decide_eq_false h, decide_eq_false fun z => h (V.str.inj z)]
    rw [z]
    exact q _ _ (Grow.refl _ _ _) R _ (.bl _)
  · rename_i u v
    cases e
    cases ra
    cases rb
    refine .inl ⟨rfl, ?_⟩
    have z : decide (V.int u = V.int v) = decide (u = v) := by
      by_cases h : u = v
      · rw [h]
        simp
      · rw [decide_eq_false h, decide_eq_false fun z => h (V.int.inj z)]
    rw [z]
    exact q _ _ (Grow.refl _ _ _) R _ (.bl _)
  · exact .inr (eqn_ent ⟨W, μ, a, b, r, R, ra, rb, e, q⟩)
theorem o_eq (hu : X.A.units + 64 < cLine) : OpR X (compareOp .Eq) (rO2 X.K E pEq) := opr_weak (op_eq.or (op_eqD hu)) fun x y H Q h => by
  rcases eq_ent h with ⟨h1, q⟩ | ⟨d, e, h1, h2, g1, g2, q⟩
  · rw [Bool.false_xor] at q
    exact .inl ⟨h1, q⟩
  · rw [Bool.false_xor] at q
    exact .inr ⟨d, e, h1, h2, g1, g2, q⟩
theorem o_ne (hu : X.A.units + 64 < cLine) : OpR X (compareOp .NotEq) (rO2 X.K E pNe) := opr_weak (op_ne.or (op_neD hu)) fun x y H Q h => by
  rcases eq_ent h with ⟨h1, q⟩ | ⟨d, e, h1, h2, g1, g2, q⟩
  · rw [Bool.true_xor] at q
    exact .inl ⟨h1, q⟩
  · rw [Bool.true_xor] at q
    exact .inr ⟨d, e, h1, h2, g1, g2, q⟩
theorem isNon_rel {K : PySem.W.Frag} {W : Wd} {n : Nat} {v : V} {s : Sv} (h : SvR K W n v s) : isNon s = decide (v = .non) := by
  cases s with
  | ref t =>
    obtain ⟨_, rfl⟩ := h
    rfl
  | scr ns =>
    obtain ⟨_, rfl, _⟩ := h
    rfl
  | dat d => cases h <;> rfl
theorem o_is : OpR X (compareOp .Is) (rO2 X.K E (pIs false)) := opr_weak op_isN fun x y H Q ⟨W, μ, a, b, r, R, ra, rb, e, q⟩ => by
  unfold pIs at e
  split at e
  · cases rb
    cases e
    rw [isNon_rel ra] at q
    exact ⟨rfl, q _ _ (Grow.refl _ _ _) R _ (by rw [Bool.false_xor]; exact .bl _)⟩
  · cases e
theorem o_isnot : OpR X (compareOp .IsNot) (rO2 X.K E (pIs true)) := opr_weak op_notN fun x y H Q ⟨W, μ, a, b, r, R, ra, rb, e, q⟩ => by
  unfold pIs at e
  split at e
  · cases rb
    cases e
    rw [isNon_rel ra] at q
    exact ⟨rfl, q _ _ (Grow.refl _ _ _) R _ (by rw [Bool.true_xor]; exact .bl _)⟩
  · cases e
theorem o_add {m : Bool} : OpR X (binaryOp .Add) (rO2 X.K E (pAdd m)) := by
  refine opr_weak ((op_add (X := X)).or (op_catA.or (op_add_str.or op_cat))) fun x y H Q ⟨W, μ, a, b, r, R, ra, rb, e, q⟩ => ?_
  unfold pAdd at e
  split at e
  · cases e
    exact .inl ⟨_, _, dq_int ra, dq_int rb, q _ _ (Grow.refl _ _ _) R _ (.int _)⟩
  · obtain ⟨c, e⟩ := iff_ok e
    cases ra with
    | tup h1 r1 =>
      cases rb with
      | tup h2 r2 =>
        refine .inr (.inl ⟨_, _, _, _, rfl, rfl, seqT_mono R.sub h1, seqT_mono R.sub h2, by rw [r1.len, r2.len]; exact szOk_line c, fun z => ?_, fun _ z => ?_, fun _ _ p hp => dq_tup R hp (r1.append r2) e q⟩)
        · subst z
          cases r1
          cases e
          exact q _ _ (Grow.refl _ _ _) R _ (.tup h2 r2)
        · subst z
          cases r2
          cases e
          rw [List.append_nil] at q
          exact q _ _ (Grow.refl _ _ _) R _ (.tup h1 r1)
  · obtain ⟨c, e⟩ := iff_ok e
    cases e
    cases ra
    cases rb
    exact .inr (.inr (.inl ⟨_, _, rfl, rfl, szOk_line c, q _ _ (Grow.refl _ _ _) R _ (.str _)⟩))
  · rename_i xs
    obtain ⟨ys, e1, e⟩ := lsOf_bind e
    obtain ⟨c, e⟩ := iff_ok e
    cases ra with
    | lst h1 r1 =>
      obtain ⟨p2, vs2, xs2, rfl, h2, r2, z⟩ := lsOf_rel R rb e1
      cases z
      refine .inr (.inr (.inr ⟨_, _, _, _, rfl, rfl, R.sub _ _ h1, h2, ?_, fun p hp => mkl_ok R hp ((rel_dats r1).append r2) e q⟩))
      rw [r1.len, r2.len]
      exact szOk_line c
  · obtain ⟨xs, e0, e⟩ := lsOf_bind e
    obtain ⟨ys, e1, e⟩ := lsOf_bind e
    obtain ⟨c, e⟩ := iff_ok e
    obtain ⟨p1, vs1, xs1, rfl, h1, r1, z⟩ := lsOf_rel R ra e0
    cases z
    obtain ⟨p2, vs2, xs2, rfl, h2, r2, z⟩ := lsOf_rel R rb e1
    cases z
    refine .inr (.inr (.inr ⟨_, _, _, _, rfl, rfl, h1, h2, ?_, fun p hp => mkl_ok R hp (r1.append r2) e q⟩))
    rw [r1.len, r2.len]
    exact szOk_line c
  · cases e
theorem flat_rels {K : PySem.W.Frag} {W : Wd} {n : Nat} {vs : List V} {xs : List Sv} (h : SvRs K W n vs xs) : ∀ k : Nat, SvRs K W n (List.replicate k vs).flatten (List.replicate k xs).flatten
  | 0 => .nil
  | k + 1 => by
    rw [List.replicate_succ, List.replicate_succ, List.flatten_cons, List.flatten_cons]
    exact h.append (flat_rels h k)
theorem small_ok {i : Int} (h : small i = true) : -(2 ^ 64) < i ∧ i < 2 ^ 64 := by
  have c := Bool.and_eq_true_iff.mp h
  exact ⟨of_decide_eq_true c.1, of_decide_eq_true c.2⟩
theorem o_mul {m : Bool} : OpR X (binaryOp .Mult) (rO2 X.K E (pMul m)) := by
  refine opr_weak ((op_mul (X := X)).or op_rep) fun x y H Q ⟨W, μ, a, b, r, R, ra, rb, e, q⟩ => ?_
  unfold pMul at e
  split at e
  · obtain ⟨c, e⟩ := iff_ok e
    cases e
    refine .inl ⟨_, _, dq_int ra, dq_int rb, ?_, q _ _ (Grow.refl _ _ _) R _ (.int _)⟩
    rcases Bool.or_eq_true_iff.mp c with c | c
    · exact .inl (small_ok c)
    · exact .inr (small_ok c)
  · obtain ⟨c, e⟩ := iff_ok e
    obtain ⟨c1, c2⟩ := Bool.and_eq_true_iff.mp c
    have c3 := small_ok c1
    cases ra with
    | lst h1 r1 =>
      refine .inr ⟨_, _, _, rfl, dq_int rb, R.sub _ _ h1, by omega, by omega, by rw [r1.len]; exact szOk_line c2, fun p hp => mkl_ok R hp (flat_rels (rel_dats r1) _) e q⟩
  · cases e
theorem o_ix : IxR X (rO2 X.K E pIx) := by
  refine ixr_weak ix_seq fun x y H Q ⟨W, μ, a, b, r, R, ra, rb, e, q⟩ => ?_
  unfold pIx at e
  split at e
  · rename_i i
    have rb' := dq_int rb
    subst rb'
    split at e
    · obtain ⟨d, e1, e⟩ := orFail_some e
      cases e
      cases ra with
      | tup h1 r1 =>
        obtain ⟨v, a1, a2⟩ := atI_rel r1 e1
        exact .inr (.inl ⟨_, _, _, v, rfl, rfl, seqT_mono R.sub h1, a1, q _ _ (Grow.refl _ _ _) R _ a2⟩)
    · obtain ⟨d, e1, e⟩ := orFail_some e
      cases e
      cases ra
      split at e1
      · rename_i hz
        exact .inr (.inr ⟨_, _, _, rfl, rfl, szOk_line hz, e1, q _ _ (Grow.refl _ _ _) R _ (.str _)⟩)
      · cases e1
    · obtain ⟨xs, e0, e⟩ := lsOf_bind e
      obtain ⟨p1, vs1, xs1, rfl, h1, r1, z⟩ := lsOf_rel R ra e0
      cases z
      cases w : atI xs i with
      | none =>
        rw [w] at e
        cases e
      | some d =>
        rw [w] at e
        cases e
        obtain ⟨v, a1, a2⟩ := atI_rels r1 w
        exact .inl ⟨_, _, _, v, rfl, rfl, SqL.of h1, a1, q _ _ (Grow.refl _ _ _) R _ a2⟩
  · cases e
end
end Pf

namespace Pf
open PySem PySem.Spec PyProof.Rows L2

section
variable {X : Cx} {E : XK} {e a b c : Expr} {es : List Expr} {Fa Fb Fc : Rho → M Sv} {Fs : Rho → M (List Sv)} {pos p : Pos}
/-! ### arguments, displays -/
def argN (_ : Rho) : M (List Sv) := M.ret []
def argC (Fa : Rho → M Sv) (Fs : Rho → M (List Sv)) (ρ : Rho) : M (List Sv) := (Fa ρ).bind fun a => (Fs ρ).bind fun r => M.ret (a :: r)
theorem a_nil : PAX X E [] argN := pa_weak pa_nil fun σ H Q ⟨W, ρ, μ, r, h, e, q⟩ => by
  cases e
  exact q _ _ (Grow.refl _ _ _) h.rel _ .nil
theorem a_cons (ha : PX X E a Fa) (hr : PAX X E es Fs) (hs : starEach (a :: es) X.env = (false, eval a X.env) :: starEach es X.env := by rfl) : PAX X E (a :: es) (argC Fa Fs) := pa_weak (pa_cons ha hr hs) fun σ H Q ⟨W, ρ, μ, r, h, e, q⟩ => by
  refine tX_bind h e q fun v a W1 H1 μ1 g1 h1 ra e1 q1 => tAr_bind h1 e1 q1 fun vs ss W2 H2 μ2 g2 h2 rs e2 q2 => ?_
  cases e2
  exact q2 _ _ (Grow.refl _ _ _) h2.rel _ (.cons (ra.grow g2) rs)
def tupV (Fs : Rho → M (List Sv)) (ρ : Rho) : M Sv := (Fs ρ).bind fun ss => if szOk ss.length = true then mkt ss else M.fail
def lstV (m : Bool) (Fs : Rho → M (List Sv)) (ρ : Rho) : M Sv := (Fs ρ).bind fun ss => if szOk ss.length = true then mkl m ss else M.fail
theorem x_tup {k : Nat} (ha : PAX X E es Fs) : PX X E (.Tuple es k pos) (tupV Fs) := pe_weak (pe_tup ha) fun σ H Q ⟨W, ρ, μ, r, h, e, q⟩ => by
  refine tAr_bind h e q fun vs ss W1 H1 μ1 g1 h1 rs e1 q1 => ?_
  obtain ⟨c, e1⟩ := iff_ok e1
  exact ⟨by rw [rs.len]; exact szOk_line c, fun p hp => mkt_ok h1.rel hp rs e1 q1⟩
theorem x_lst (m : Bool) (ha : PAX X E es Fs) : PX X E (.List es pos) (lstV m Fs) := pe_weak (pe_lst ha) fun σ H Q ⟨W, ρ, μ, r, h, e, q⟩ => by
  refine tAr_bind h e q fun vs ss W1 H1 μ1 g1 h1 rs e1 q1 => ?_
  obtain ⟨c, e1⟩ := iff_ok e1
  exact ⟨by rw [rs.len]; exact szOk_line c, fun p hp => mkl_ok h1.rel hp rs e1 q1⟩

/-! ### a mutable list becomes data -/
def frz (s : Sv) : M Sv := fun μ => match s with
  | .dat d => some (.ok (.dat d) μ)
  | .ref t => match μ[t]? with
    | some (.lst xs) => (dats xs).map fun ds => .ok (.dat (.list ds)) (μ.set t .gone)
    | _ => none
  | _ => none
def frzV (Fa : Rho → M Sv) (ρ : Rho) : M Sv := (Fa ρ).bind frz
theorem frz_ok {K : PySem.W.Frag} {W : Wd} {H : Hp} {μ : Mu} {s : Sv} {v : V} {r : Res Sv} {Q : VK} (R : Rel K W H μ) (h : SvR K W μ.length v s) (e : frz s μ = some r) (q : KoV K E W H μ r Q) : Q v H := by
  cases s with
  | dat d =>
    cases e
    exact q _ _ (Grow.refl _ _ _) R _ h
  | ref t =>
    obtain ⟨_, rfl⟩ := h
    unfold frz at e
    cases q1 : μ[t]? with
    | none =>
      simp only [q1] at e
      cases e
    | some o =>
      cases o with
      | gone =>
        simp only [q1] at e
        cases e
      | lst xs =>
        simp only [q1] at e
        cases w : dats xs with
        | none =>
          rw [w] at e
          cases e
        | some ds =>
          rw [w] at e
          cases e
          obtain ⟨W', g, R', hd, he, hs⟩ := R.freeze q1 w
          exact q W' H (grow_freeze q1 g he hs) R' _ hd
  | scr ns => cases e
theorem x_frz (ha : PX X E a Fa) : PX X E a (frzV Fa) := pe_weak ha fun σ H Q ⟨W, ρ, μ, r, h, e, q⟩ => tX_bind h e q fun v s W1 H1 μ1 g1 h1 rs e1 q1 => frz_ok h1.rel rs e1 q1

/-! ### built-in calls by values -/
def rC (K : PySem.W.Frag) (E : XK) (op : List Sv → M Sv) : List V → Hp → VK → Prop := fun xs H Q => ∃ W μ ss r, Rel K W H μ ∧ SvRs K W μ.length xs ss ∧ op ss μ = some r ∧ KoV K E W H μ r Q
theorem callr_weak {f : Value} {r r' : List V → Hp → VK → Prop} (h : CallR X f r) (w : ∀ xs H Q, r' xs H Q → r xs H Q) : CallR X f r' := fun pins s σ H xs us Q I rv q => h pins s σ H xs us Q I rv (w _ _ _ q)
def callV (op : List Sv → M Sv) (Fs : Rho → M (List Sv)) (ρ : Rho) : M Sv := (Fs ρ).bind op
theorem callV_ent {K : PySem.W.Frag} {op : List Sv → M Sv} {σ : L2.St} {H : Hp} {Q : VK} (h : tX K E (callV op Fs) σ H Q) : tCB (rC K E op) (tAr K E Fs) σ H Q := by
  obtain ⟨W, ρ, μ, r, h, e, q⟩ := h
  exact tAr_bind h e q fun vs ss W1 H1 μ1 g1 h1 rs e1 q1 => ⟨W1, μ1, ss, r, h1.rel, rs, e1, q1⟩
theorem x_callB {id : String} {x : Str} {op : List Sv → M Sv} (hc : CallR X (.builtin id) (rC X.K E op)) (hg : Gl X x) (hm : X.mg x = none) (hv : bootBuiltins x = some (.builtin id)) (ha : PAX X E (e :: es) Fs) (hn : x ≠ "__name__" := by decide) (hdb : (x == ("__debug__" : Str)) = false := by decide)
    (he : starEach (e :: es) X.env = (false, eval e X.env) :: starEach es X.env := by rfl) (hpl : (backTo pos (starEach es X.env)).any (·.1) = false := by rfl) : PX X E (.Call (.Name x p) (e :: es) [] pos) (callV op Fs) :=
  pe_weak (pe_callB hc hg hm hv ha hn hdb he hpl) fun _ _ _ h => callV_ent h
theorem x_callTy {id : String} {x : Str} {op : List Sv → M Sv} (hc : CallR X (.type id) (rC X.K E op)) (hg : Gl X x) (hm : X.mg x = none) (hv : bootBuiltins x = some (.type id)) (ha : PAX X E (e :: es) Fs) (hn : x ≠ "__name__" := by decide) (hdb : (x == ("__debug__" : Str)) = false := by decide)
    (he : starEach (e :: es) X.env = (false, eval e X.env) :: starEach es X.env := by rfl) (hpl : (backTo pos (starEach es X.env)).any (·.1) = false := by rfl) : PX X E (.Call (.Name x p) (e :: es) [] pos) (callV op Fs) :=
  pe_weak (pe_callTy hc hg hm hv ha hn hdb he hpl) fun _ _ _ h => callV_ent h
theorem rels1 {K : PySem.W.Frag} {W : Wd} {n : Nat} {xs : List V} {s : Sv} (h : SvRs K W n xs [s]) : ∃ x, xs = [x] ∧ SvR K W n x s := by
  cases h with
  | cons h r =>
    cases r
    exact ⟨_, rfl, h⟩
theorem rels2 {K : PySem.W.Frag} {W : Wd} {n : Nat} {xs : List V} {s t : Sv} (h : SvRs K W n xs [s, t]) : ∃ x y, xs = [x, y] ∧ SvR K W n x s ∧ SvR K W n y t := by
  cases h with
  | cons h r =>
    obtain ⟨y, rfl, h2⟩ := rels1 r
    exact ⟨_, y, rfl, h, h2⟩
def bLen (ss : List Sv) : M Sv := match ss with
  | [.dat (.tuple ds)] => M.ret (.dat (.int ds.length))
  | [.dat (.str x)] => if szOk x.length = true then M.ret (.dat (.int x.length)) else M.fail
  | [s] => (lsOf s).bind fun xs => M.ret (.dat (.int xs.length))
  | _ => M.fail
theorem b_len : CallR X (.builtin "len") (rC X.K E bLen) := callr_weak call_len fun xs H Q ⟨W, μ, ss, r, R, rs, e, q⟩ => by
  unfold bLen at e
  split at e
  · cases e
    obtain ⟨x, rfl, h⟩ := rels1 rs
    cases h with
    | tup h1 r1 => exact ⟨_, _, rfl, .inr ⟨_, seqT_mono R.sub h1, rfl⟩, q _ _ (Grow.refl _ _ _) R _ (by rw [r1.len]; exact .int _)⟩
  · obtain ⟨c, e⟩ := iff_ok e
    cases e
    obtain ⟨x, rfl, h⟩ := rels1 rs
    cases h
    exact ⟨_, _, rfl, ⟨szOk_line c, rfl⟩, q _ _ (Grow.refl _ _ _) R _ (.int _)⟩
  · obtain ⟨x, rfl, h⟩ := rels1 rs
    obtain ⟨ys, e0, e⟩ := lsOf_bind e
    obtain ⟨p1, vs1, xs1, rfl, h1, r1, z⟩ := lsOf_rel R h e0
    cases z
    cases e
    exact ⟨_, _, rfl, .inl ⟨_, SqL.of h1, rfl⟩, q _ _ (Grow.refl _ _ _) R _ (by rw [r1.len]; exact .int _)⟩
  · cases e
def bAbs (ss : List Sv) : M Sv := match ss with
  | [.dat (.int i)] => M.ret (.dat (.int (if i < 0 then -i else i)))
  | _ => M.fail
theorem b_abs : CallR X (.builtin "abs") (rC X.K E bAbs) := callr_weak call_abs fun xs H Q ⟨W, μ, ss, r, R, rs, e, q⟩ => by
  unfold bAbs at e
  split at e
  · cases e
    obtain ⟨x, rfl, h⟩ := rels1 rs
    cases h
    exact ⟨_, rfl, q _ _ (Grow.refl _ _ _) R _ (.int _)⟩
  · cases e
def bMax2 (ss : List Sv) : M Sv := match ss with
  | [.dat (.int i), .dat (.int j)] => M.ret (.dat (.int (if j > i then j else i)))
  | _ => M.fail
def bMin2 (ss : List Sv) : M Sv := match ss with
  | [.dat (.int i), .dat (.int j)] => M.ret (.dat (.int (if j < i then j else i)))
  | _ => M.fail
theorem b_max2 (hc : X.calm = true := by rfl) : CallR X (.builtin "max") (rC X.K E bMax2) := callr_weak (call_max2 hc) fun xs H Q ⟨W, μ, ss, r, R, rs, e, q⟩ => by
  unfold bMax2 at e
  split at e
  · cases e
    obtain ⟨x, y, rfl, h, h2⟩ := rels2 rs
    cases h
    cases h2
    exact ⟨_, _, rfl, q _ _ (Grow.refl _ _ _) R _ (.int _)⟩
  · cases e
theorem b_min2 (hc : X.calm = true := by rfl) : CallR X (.builtin "min") (rC X.K E bMin2) := callr_weak (call_min2 hc) fun xs H Q ⟨W, μ, ss, r, R, rs, e, q⟩ => by
  unfold bMin2 at e
  split at e
  · cases e
    obtain ⟨x, y, rfl, h, h2⟩ := rels2 rs
    cases h
    cases h2
    exact ⟨_, _, rfl, q _ _ (Grow.refl _ _ _) R _ (.int _)⟩
  · cases e
/-- ints in a list of data -/
def asInts : List PyData → Option (List Int)
  | [] => some []
  | .int i :: r => (asInts r).map (i :: ·)
  | _ :: _ => none
theorem ints_rel {K : PySem.W.Frag} {H : Hp} : ∀ {vs : List V} {ds : List PyData} {ns : List Int}, Dqs K H vs ds → asInts ds = some ns → vs = ns.map V.int
  | _, [], _, .nil, e => by
    cases e
    rfl
  | _, .int i :: ds, _, .cons h r, e => by
    have e' : (asInts ds).map (i :: ·) = some _ := e
    cases q : asInts ds with
    | none =>
      rw [q] at e'
      cases e'
    | some z =>
      rw [q] at e'
      cases e'
      rw [ints_rel r q, dq_int h]
      rfl
  | _, .none :: _, _, .cons _ _, e => nomatch e
  | _, .bool _ :: _, _, .cons _ _, e => nomatch e
  | _, .str _ :: _, _, .cons _ _, e => nomatch e
  | _, .list _ :: _, _, .cons _ _, e => nomatch e
  | _, .tuple _ :: _, _, .cons _ _, e => nomatch e
  | _, .dict _ :: _, _, .cons _ _, e => nomatch e
theorem ints_map (ns : List Int) : asInts (ns.map PyData.int) = some ns := by
  induction ns with
  | nil => rfl
  | cons n ns ih =>
    show (asInts (ns.map PyData.int)).map (n :: ·) = _
    rw [ih]
    rfl
def bSum (ss : List Sv) : M Sv := match ss with
  | [s] => (rd s).bind fun d => match d with
    | .list ds => (orFail (asInts ds)).bind fun ns => M.ret (.dat (.int ns.sum))
    | _ => M.fail
  | _ => M.fail
theorem b_sum (hc : X.calm = true := by rfl) : CallR X (.builtin "sum") (rC X.K E bSum) := callr_weak (cr_sum hc) fun xs H Q ⟨W, μ, ss, r, R, rs, e, q⟩ => by
  unfold bSum at e
  split at e
  · obtain ⟨x, rfl, h⟩ := rels1 rs
    obtain ⟨d, e1, e⟩ := rd_bind e
    obtain ⟨d', z1, h1⟩ := rd_rel R h e1
    cases z1
    split at e
    · obtain ⟨ns, e2, e⟩ := orFail_some e
      cases e
      cases h1 with
      | lst h2 r2 =>
        have := ints_rel r2 e2
        subst this
        exact ⟨_, ns, rfl, SqL.of h2, q _ _ (Grow.refl _ _ _) R _ (.int _)⟩
    · cases e
  · cases e
def bTuple (ss : List Sv) : M Sv := match ss with
  | [.dat (.tuple ds)] => M.ret (.dat (.tuple ds))
  | [s] => (lsOf s).bind fun xs => mkt xs
  | _ => M.fail
theorem b_tuple : CallR X (.type "tuple") (rC X.K E bTuple) := callr_weak call_tuple_of fun xs H Q ⟨W, μ, ss, r, R, rs, e, q⟩ => by
  unfold bTuple at e
  split at e
  · cases e
    obtain ⟨x, rfl, h⟩ := rels1 rs
    have h0 := h
    cases h with
    | tup h1 r1 => exact ⟨_, _, rfl, .inr ⟨seqT_mono R.sub h1, q _ _ (Grow.refl _ _ _) R _ h0⟩⟩
  · obtain ⟨x, rfl, h⟩ := rels1 rs
    obtain ⟨ys, e0, e⟩ := lsOf_bind e
    obtain ⟨p1, vs1, xs1, rfl, h1, r1, z⟩ := lsOf_rel R h e0
    cases z
    exact ⟨_, _, rfl, .inl ⟨SqL.of h1, fun l hl => mkt_ok R hl r1 e q⟩⟩
  · cases e
def bList (m : Bool) (ss : List Sv) : M Sv := match ss with
  | [.dat (.tuple ds)] => mkl m (ds.map Sv.dat)
  | [s] => (lsOf s).bind fun xs => mkl m xs
  | _ => M.fail
theorem b_list {m : Bool} : CallR X (.type "list") (rC X.K E (bList m)) := callr_weak call_list_of fun xs H Q ⟨W, μ, ss, r, R, rs, e, q⟩ => by
  unfold bList at e
  split at e
  · obtain ⟨x, rfl, h⟩ := rels1 rs
    cases h with
    | tup h1 r1 => exact ⟨_, _, rfl, .inr (seqT_mono R.sub h1), fun l hl => mkl_ok R hl (rel_dats r1) e q⟩
  · obtain ⟨x, rfl, h⟩ := rels1 rs
    obtain ⟨ys, e0, e⟩ := lsOf_bind e
    obtain ⟨p1, vs1, xs1, rfl, h1, r1, z⟩ := lsOf_rel R h e0
    cases z
    exact ⟨_, _, rfl, .inl (SqL.of h1), fun l hl => mkl_ok R hl r1 e q⟩
  · cases e

/-! ### repr -/
def okShow (d : PyData) : Bool := d.showable && decide (d.depth ≤ 60) && szOk d.shown.length
def isRefD : PyData → Bool
  | .list _ => true
  | .tuple _ => true
  | .dict _ => true
  | _ => false
def bRepr (ss : List Sv) : M Sv := match ss with
  | [s] => (rd s).bind fun d => if okShow d = true then M.ret (.dat (.str d.shown)) else M.fail
  | _ => M.fail
theorem b_repr (hg : X.A.guards = some []) (hu : X.A.units + 64 < cLine) : CallR X (.builtin "repr") (rC X.K E bRepr) := by
  intro pins s σ H xs us Q I rv ⟨W, μ, ss, r, R, rs, e, q⟩
  unfold bRepr at e
  split at e
  · obtain ⟨x, rfl, h⟩ := rels1 rs
    obtain ⟨u, rfl, rx⟩ := vals1 rv
    obtain ⟨d, e1, e⟩ := rd_bind e
    obtain ⟨d', z1, h1⟩ := rd_rel R h e1
    cases z1
    obtain ⟨c, e⟩ := iff_ok e
    cases e
    obtain ⟨c, c4⟩ := Bool.and_eq_true_iff.mp c
    obtain ⟨c1, c3⟩ := Bool.and_eq_true_iff.mp c
    have hd := of_decide_eq_true c3
    have done : ∀ h' t tk, (∀ b o, s.heap.get? b = some o → h'.get? b = some o) → EP X pins σ Q (.str d.shown t) { s with heap := h', toks := tk } := fun h' t tk k =>
      ⟨.str d.shown, H, I.kept k, ⟨t, rfl⟩, q _ _ (Grow.refl _ _ _) R _ (.str _)⟩
    obtain ⟨as, hr, hb⟩ := Dq.reads I h1 rx
    have hsm : d.hasDict = true → sysModules ∉ as := fun _ => hb R.sm
    have line : d.shown.length ≤ sizeLine := szOk_line c4
    have refs : ∀ a, u = .ref a → wpAny (model X.prog X.w) X.A (call (.builtin "repr") [u]) (EP X pins σ Q) X.xe s := fun a ea => by
      subst ea
      exact repr_of_reads' hr c1 hsm hg (by omega) (fun _ _ z => z) (fun h' t tk k => done h' t tk k) line
    cases h1 with
    | non =>
      cases (show u = Value.none from rx)
      exact P.repr_of_none (done _ _ _ fun _ _ z => z)
    | bl b =>
      cases (show u = Value.bool b from rx)
      exact P.repr_of_bool (done _ _ _ fun _ _ z => z)
    | int i =>
      obtain ⟨t, rfl⟩ := rx
      exact P.repr_of_int (of_decide_eq_true (by simpa only [PyData.showable] using c1)) (done _ _ _ fun _ _ z => z)
    | str y =>
      obtain ⟨t, rfl⟩ := rx
      exact P.repr_of_str (done _ _ _ fun _ _ z => z) line
    | lst h2 r2 => exact refs _ rx
    | tup h2 r2 => exact refs _ rx
    | dct h2 r2 => exact refs _ rx
  · cases e
/-! ### isinstance -/
def tyN : Sv → String
  | .dat .none => "NoneType"
  | .dat (.bool _) => "bool"
  | .dat (.int _) => "int"
  | .dat (.str _) => "str"
  | .dat (.list _) => "list"
  | .dat (.tuple _) => "tuple"
  | .dat (.dict _) => "dict"
  | _ => "list"
def isi (n : String) (s : Sv) (μ : Mu) : Option (Res Sv) := match s, kitB (tyN s) n with
  | .dat _, some b => some (.ok (.dat (.bool b)) μ)
  | .ref t, some b => match μ[t]? with
    | some (.lst _) => some (.ok (.dat (.bool b)) μ)
    | _ => none
  | _, _ => none
theorem ty_rel {K : PySem.W.Frag} {H : Hp} {v : V} {d : PyData} (h : Dq K H v d) : TyX K H v (.type (tyN (.dat d))) := by
  cases h with
  | non => exact .base .non
  | bl b => exact .base (.bl b)
  | int i => exact .base (.int i)
  | str x => exact .base (.str x)
  | lst h r => exact .base (.lst h)
  | tup h r =>
    rcases h with (h | ⟨o, h⟩) | ⟨o, its, n, h, hc, _⟩
    · exact .base (.tup h)
    · exact .fTuple h
    · exact .kTuple h hc
  | dct h r => exact .base (.dK h)
def isiV (n : String) (Fa : Rho → M Sv) (ρ : Rho) : M Sv := (Fa ρ).bind (isi n)
theorem x_isi {x y : Str} {n : String} {p p2 pos : Pos} (hg : Gl X x) (hm : X.mg x = none) (hv : bootBuiltins x = some (.builtin "isinstance")) (hg2 : Gl X y) (hm2 : X.mg y = none) (hv2 : bootBuiltins y = some (.type n)) (ha : PX X E a Fa)
    (hn : x ≠ "__name__" := by decide) (hdb : (x == ("__debug__" : Str)) = false := by decide) (hn2 : y ≠ "__name__" := by decide) (hdb2 : (y == ("__debug__" : Str)) = false := by decide)
    (he : starEach [a, .Name y p2] X.env = (false, eval a X.env) :: starEach [.Name y p2] X.env := by rfl) (he2 : starEach [.Name y p2] X.env = (false, eval (.Name y p2) X.env) :: starEach [] X.env := by rfl) (hpl : (backTo pos (starEach [.Name y p2] X.env)).any (·.1) = false := by rfl) :
    PX X E (.Call (.Name x p) [a, .Name y p2] [] pos) (isiV n Fa) :=
  pe_weak (pe_callB call_isi hg hm hv (pa_cons ha (pa_cons (pe_bltn (v := .ty n) hg2 hm2 hv2 rfl hn2 hdb2) pa_nil he2) he) hn hdb he hpl) fun σ H Q ⟨W, ρ, μ, r, h, e, q⟩ => by
    refine tX_bind h e q fun v s W1 H1 μ1 g1 h1 rs e1 q1 => ?_
    unfold isi at e1
    split at e1
    · rename_i d b hk
      cases e1
      exact ⟨v, .ty n, _, _, b, rfl, .ty n, ty_rel (Dq.mono h1.rel.sub rs), kit_ty hk, q1 _ _ (Grow.refl _ _ _) h1.rel _ (.bl b)⟩
    · rename_i t b hk
      obtain ⟨_, rfl⟩ := rs
      split at e1
      · rename_i xs hx
        cases e1
        obtain ⟨vs, z, _⟩ := h1.rel.obj t _ hx
        exact ⟨_, .ty n, _, _, b, rfl, .ty n, .base (.lst z), kit_ty hk, q1 _ _ (Grow.refl _ _ _) h1.rel _ (.bl b)⟩
      · cases e1
    · cases e1
end
end Pf

namespace Pf
open PySem PySem.Spec PyProof.Rows L2

section
variable {X : Cx} {E : XK} {e a b c lo hi : Expr} {es : List Expr} {Fa Fb Fc : Rho → M Sv} {Fs : Rho → M (List Sv)} {pos p p2 : Pos}
/-! ### slices -/
def tPO (K : PySem.W.Frag) (E : XK) (F : Rho → M (Option Int)) : TO := fun σ H Q => ∃ W ρ μ r, Here K W σ H ρ μ ∧ F ρ μ = some r ∧ Ko K E W H μ r fun W' H' o μ' => Q o H'
abbrev POX (X : Cx) (E : XK) (e : Option Expr) (F : Rho → M (Option Int)) : Prop := PO X e (tPO X.K E F)
theorem po_weak {X : Cx} {e : Option Expr} {t t' : TO} (h : PO X e t) (w : ∀ σ H Q, t' σ H Q → t σ H Q) : PO X e t' := ⟨fun pins s σ H Q I q => h.run pins s σ H Q I (w _ _ _ q)⟩
def noPart (_ : Rho) : M (Option Int) := M.ret none
def asI (s : Sv) : M Int := match s with
  | .dat (.int i) => M.ret i
  | _ => M.fail
def aPart (F : Rho → M Sv) (ρ : Rho) : M (Option Int) := (F ρ).bind fun s => (asI s).bind fun i => M.ret (some i)
theorem asI_bind {α : Type} {s : Sv} {k : Int → M α} {μ : Mu} {r : Res α} (h : M.bind (asI s) k μ = some r) : ∃ i, s = .dat (.int i) ∧ k i μ = some r := by
  unfold asI at h
  split at h
  · exact ⟨_, rfl, h⟩
  · cases h
theorem o_none : POX X E none noPart := po_weak po_none fun σ H Q ⟨W, ρ, μ, r, h, e, q⟩ => by
  cases e
  exact q _ _ (Grow.refl _ _ _) h.rel
theorem o_some (h : PX X E a Fa) : POX X E (some a) (aPart Fa) := po_weak (po_some h) fun σ H Q ⟨W, ρ, μ, r, h, e, q⟩ => by
  refine tX_bind h e q fun v s W1 H1 μ1 g1 h1 rs e1 q1 => ?_
  obtain ⟨i, rfl, e1⟩ := asI_bind e1
  cases rs
  cases e1
  exact ⟨i, rfl, q1 _ _ (Grow.refl _ _ _) h1.rel⟩
theorem tPO_bind {α : Type} {K : PySem.W.Frag} {W : Wd} {σ : L2.St} {H : Hp} {ρ : Rho} {μ : Mu} {F : Rho → M (Option Int)} {k : Option Int → M α} {r : Res α} {P : Wd → Hp → α → Mu → Prop} {Q : Option Int → Hp → Prop} (h : Here K W σ H ρ μ) (e : M.bind (F ρ) k μ = some r) (q : Ko K E W H μ r P)
    (step : ∀ b W1 H1 μ1, Grow W H μ W1 H1 μ1 → Here K W1 σ H1 ρ μ1 → k b μ1 = some r → Ko K E W1 H1 μ1 r P → Q b H1) : tPO K E F σ H Q := by
  rcases bind_some e with ⟨a, μ1, e1, e2⟩ | ⟨c, μ1, e1, rfl⟩
  · exact ⟨W, ρ, μ, _, h, e1, fun W1 H1 g R => step a W1 H1 μ1 g (h.next g R) e2 (q.later g)⟩
  · exact ⟨W, ρ, μ, _, h, e1, q⟩
def cutL {α : Type} (xs : List α) (lo hi : Option Int) : List α := (xs.drop (HT.sIx xs.length 0 lo)).take (HT.sIx xs.length xs.length hi - HT.sIx xs.length 0 lo)
def pSl (m : Bool) (s : Sv) (lo hi : Option Int) : M Sv := match s with
  | .dat (.tuple ds) => M.ret (.dat (.tuple (cutL ds lo hi)))
  | .dat (.str z) => if szOk z.length = true then M.ret (.dat (.str (cutS z lo hi))) else M.fail
  | .scr ns => mkl m ((cutL ns lo hi).map fun n => .dat (.int n))
  | s => (lsOf s).bind fun xs => mkl m (cutL xs lo hi)
theorem int_rels {K : PySem.W.Frag} {W : Wd} {n : Nat} : ∀ ns : List Int, SvRs K W n (ns.map V.int) (ns.map fun i => .dat (.int i))
  | [] => .nil
  | i :: r => .cons (.int i) (int_rels r)
theorem cut_map (ns : List Int) (lo hi : Option Int) : cutV (ns.map V.int) lo hi = (cutL ns lo hi).map V.int := by
  unfold cutV cutL
  rw [List.length_map, List.map_take, List.map_drop]
theorem cut_whole {α : Type} {xs : List α} {lo hi : Option Int} (h : HT.sIx xs.length 0 lo = 0 ∧ HT.sIx xs.length xs.length hi = xs.length) : cutL xs lo hi = xs := by
  unfold cutL
  rw [h.1, h.2, List.drop_zero, Nat.sub_zero, List.take_length]
theorem cut_rel {K : PySem.W.Frag} {H : Hp} {vs : List V} {ds : List PyData} {lo hi : Option Int} (h : Dqs K H vs ds) : Dqs K H (cutV vs lo hi) (cutL ds lo hi) := by
  unfold cutV cutL
  rw [h.len]
  exact (h.drop _).take _
theorem rels_take {K : PySem.W.Frag} {W : Wd} {n : Nat} : ∀ {v : List V} {x : List Sv} (k : Nat), SvRs K W n v x → SvRs K W n (v.take k) (x.take k)
  | _, _, 0, _ => .nil
  | _, _, _ + 1, .nil => .nil
  | _, _, k + 1, .cons r t => .cons r (rels_take k t)
theorem rels_drop {K : PySem.W.Frag} {W : Wd} {n : Nat} : ∀ {v : List V} {x : List Sv} (k : Nat), SvRs K W n v x → SvRs K W n (v.drop k) (x.drop k)
  | _, _, 0, r => r
  | _, _, _ + 1, .nil => .nil
  | _, _, k + 1, .cons _ t => rels_drop k t
theorem rels_rev {K : PySem.W.Frag} {W : Wd} {n : Nat} : ∀ {v : List V} {x : List Sv}, SvRs K W n v x → SvRs K W n v.reverse x.reverse
  | _, _, .nil => .nil
  | _, _, .cons h r => by
    rw [List.reverse_cons, List.reverse_cons]
    exact (rels_rev r).append (.cons h .nil)
theorem cut_rels {K : PySem.W.Frag} {W : Wd} {n : Nat} {vs : List V} {xs : List Sv} {lo hi : Option Int} (h : SvRs K W n vs xs) : SvRs K W n (cutV vs lo hi) (cutL xs lo hi) := by
  unfold cutV cutL
  rw [h.len]
  exact rels_take _ (rels_drop _ h)
def slV (m : Bool) (Fa : Rho → M Sv) (Fl Fh : Rho → M (Option Int)) (ρ : Rho) : M Sv := (Fa ρ).bind fun s => (Fl ρ).bind fun lo => (Fh ρ).bind fun hi => pSl m s lo hi
theorem x_slice (m : Bool) {lo hi : Option Expr} {Fl Fh : Rho → M (Option Int)} (he : PX X E a Fa) (hl : POX X E lo Fl) (hu : POX X E hi Fh) : PX X E (.Subscript a (.Slice lo hi none p2) pos) (slV m Fa Fl Fh) :=
  pe_weak (pe_slice ((sl_tupA (X := X)).or (sl_str.or sl_list)) he hl hu) fun σ H Q ⟨W, ρ, μ, r, h, e, q⟩ => by
    refine tX_bind h e q fun v s W1 H1 μ1 g1 h1 rs e1 q1 => tPO_bind h1 e1 q1 fun lo W2 H2 μ2 g2 h2 e2 q2 => tPO_bind h2 e2 q2 fun hi W3 H3 μ3 g3 h3 e3 q3 => ?_
    have rs' := (rs.grow g2).grow g3
    unfold pSl at e3
    split at e3
    · cases e3
      cases rs' with
      | tup h4 r4 =>
        refine .inl ⟨_, _, rfl, seqT_mono h3.rel.sub h4, fun z => ?_, fun z p hp => ?_⟩
        · rw [r4.len] at z
          rw [cut_whole z] at q3
          exact q3 _ _ (Grow.refl _ _ _) h3.rel _ (.tup h4 r4)
        · exact dq_tup h3.rel hp (cut_rel r4) rfl q3
    · obtain ⟨c, e3⟩ := iff_ok e3
      cases e3
      cases rs'
      exact .inr (.inl ⟨_, rfl, szOk_line c, q3 _ _ (Grow.refl _ _ _) h3.rel _ (.str _)⟩)
    · obtain ⟨a, rfl, ha⟩ := rs'
      refine .inr (.inr ⟨_, _, rfl, h3.rel.sub.seq ha, fun p hp => ?_⟩)
      rw [cut_map]
      exact mkl_ok h3.rel hp (int_rels _) e3 q3
    · obtain ⟨xs, e4, e3⟩ := lsOf_bind e3
      obtain ⟨p1, vs1, xs1, rfl, h4, r4, z⟩ := lsOf_rel h3.rel rs' e4
      cases z
      exact .inr (.inr ⟨_, _, rfl, SqL.of h4, fun p hp => mkl_ok h3.rel hp (cut_rels r4) e3 q3⟩)
def revV (m : Bool) (Fa : Rho → M Sv) (ρ : Rho) : M Sv := (Fa ρ).bind fun s => (lsOf s).bind fun xs => mkl m xs.reverse
theorem x_revL (m : Bool) {k : Nat} {p1 p3 : Pos} (he : PX X E a Fa) : PX X E (.Subscript a (.Slice none none (some (.UnaryOp .USub (.Constant (.int 1) k p1) p2)) p3) pos) (revV m Fa) := pe_weak (pe_revL he) fun σ H Q ⟨W, ρ, μ, r, h, e, q⟩ => by
  refine tX_bind h e q fun v s W1 H1 μ1 g1 h1 rs e1 q1 => ?_
  obtain ⟨xs, e4, e3⟩ := lsOf_bind e1
  obtain ⟨p1, vs1, xs1, rfl, h4, r4, z⟩ := lsOf_rel h1.rel rs e4
  cases z
  exact ⟨_, _, rfl, SqL.of h4, fun p hp => mkl_ok h1.rel hp (rels_rev r4) e3 q1⟩
theorem x_neg (ha : PX X E a Fa) : PX X E (.UnaryOp .USub a pos) (fun ρ => (Fa ρ).bind fun s => (asI s).bind fun i => M.ret (.dat (.int (-i)))) := pe_weak (pe_un un_neg ha) fun σ H Q ⟨W, ρ, μ, r, h, e, q⟩ => by
  refine tX_bind h e q fun v s W1 H1 μ1 g1 h1 rs e1 q1 => ?_
  obtain ⟨i, rfl, e1⟩ := asI_bind e1
  cases rs
  cases e1
  exact ⟨i, rfl, q1 _ _ (Grow.refl _ _ _) h1.rel _ (.int _)⟩

/-! ### xs.append(e), xs.pop() on tagged lists -/
def wrt (t : Nat) (xs : List Sv) : M PUnit := fun μ => some (.ok ⟨⟩ (μ.set t (.lst xs)))
def tagOf (s : Sv) : M (Nat × List Sv) := fun μ => match s with
  | .ref t => match μ[t]? with
    | some (.lst xs) => some (.ok (t, xs) μ)
    | _ => none
  | _ => none
theorem tag_bind {α : Type} {s : Sv} {k : Nat × List Sv → M α} {μ : Mu} {r : Res α} (h : M.bind (tagOf s) k μ = some r) : ∃ t xs, s = .ref t ∧ μ[t]? = some (.lst xs) ∧ k (t, xs) μ = some r := by
  cases s with
  | dat d => cases h
  | scr d => cases h
  | ref t =>
    cases q : μ[t]? with
    | none =>
      unfold M.bind tagOf at h
      simp only [q] at h
      cases h
    | some o =>
      cases o with
      | gone =>
        unfold M.bind tagOf at h
        simp only [q] at h
        cases h
      | lst xs =>
        unfold M.bind tagOf at h
        simp only [q] at h
        exact ⟨t, xs, rfl, q, h⟩
theorem write_rel {α : Type} {K : PySem.W.Frag} {W : Wd} {H : Hp} {μ : Mu} {t : Nat} {ys xs : List Sv} {vs : List V} {k : PUnit → M α} {r : Res α} (R : Rel K W H μ) (e : μ[t]? = some (.lst ys)) (h : SvRs K W μ.length vs xs) (e2 : M.bind (wrt t xs) k μ = some r) :
    Rel K W (upd H (W.η t) (.lst vs)) (μ.set t (.lst xs)) ∧ Grow W H μ W (upd H (W.η t) (.lst vs)) (μ.set t (.lst xs)) ∧ k ⟨⟩ (μ.set t (.lst xs)) = some r :=
  ⟨R.write e h, grow_write e, e2⟩
def appV (Fa : Rho → M Sv) (Fb : Rho → M Sv) (ρ : Rho) : M Sv := (Fa ρ).bind fun o => (tagOf o).bind fun _ => (Fb ρ).bind fun x => (tagOf o).bind fun z => if szOk (z.2.length + 1) = true then (wrt z.1 (z.2 ++ [x])).bind fun _ => M.ret (.dat .none) else M.fail
theorem x_append {apos : Pos} (ho : PX X E a Fa) (hb : PX X E b Fb)
    (hbase : attributeBase a "append" X.env (eval a X.env) = eval a X.env := by rfl)
    (hfew : ((backTo pos (starEach [b] X.env)).all (fun x => !x.1) && (backToKw pos (keywordEach [] X.env)).all (fun x => x.1.isSome) && decide (([b] : List Expr).length + ([] : List Keyword).length + (if ([] : List Keyword).isEmpty then 0 else 1) < 30)) = true := by rfl)
    (hline : (apos.endLine == pos.line) = true := by rfl) (hs : starEach [b] X.env = (false, eval b X.env) :: starEach [] X.env := by rfl) (hplain : (backTo pos (starEach [] X.env)).any (·.1) = false := by rfl) :
    PX X E (.Call (.Attribute a "append" apos) [b] [] pos) (appV Fa Fb) :=
  pe_weak (pe_bm PySem.F.plainAttrs_list PySem.F.slot_list_append PySem.F.type_list_append mt_append ho (pa_cons hb pa_nil hs) hbase hfew hline hs hplain) fun σ H Q ⟨W, ρ, μ, r, h, e, q⟩ => by
    refine tX_bind h e q fun v o W1 H1 μ1 g1 h1 ro e1 q1 => ?_
    obtain ⟨t, xs, rfl, et, e1⟩ := tag_bind e1
    obtain ⟨ht, rfl⟩ := ro
    obtain ⟨vs, z1, z2⟩ := h1.rel.obj t _ et
    refine ⟨.inl ⟨rfl, vs, SqL.of z1⟩, ?_⟩
    refine tX_bind h1 e1 q1 fun u x W2 H2 μ2 g2 h2 rx e2 q2 => ?_
    obtain ⟨t', ys, te, et2, e2⟩ := tag_bind e2
    cases te
    obtain ⟨us, y1, y2⟩ := h2.rel.obj t _ et2
    obtain ⟨c, e2⟩ := iff_ok e2
    have ra : SvRs X.K W2 μ2.length (us ++ [u]) (ys ++ [x]) := y2.append (.cons rx .nil)
    obtain ⟨R3, g3, e3⟩ := write_rel h2.rel et2 ra e2
    cases e3
    refine ⟨W1.η t, us, u, rfl, rfl, ?_, ?_, ?_⟩
    · rw [← g2.at_ t ht]
      exact y1
    · rw [y2.len]
      have : ys.length + 1 < sizeLine := szOk_lt c
      omega
    · rw [← g2.at_ t ht]
      exact q2 _ _ g3 R3 _ .non
theorem drop_rels {K : PySem.W.Frag} {W : Wd} {n : Nat} : ∀ {v : List V} {x : List Sv}, SvRs K W n v x → SvRs K W n v.dropLast x.dropLast
  | _, _, .nil => .nil
  | _, _, .cons h .nil => .nil
  | _, _, .cons h (.cons h2 r) => .cons h (drop_rels (.cons h2 r))
def popV (Fa : Rho → M Sv) (ρ : Rho) : M Sv := (Fa ρ).bind fun o => (tagOf o).bind fun z => (orFail (z.2[z.2.length - 1]?)).bind fun x => (wrt z.1 z.2.dropLast).bind fun _ => M.ret x
theorem x_pop {apos : Pos} (ho : PX X E a Fa) (hbase : attributeBase a "pop" X.env (eval a X.env) = eval a X.env := by rfl) (hline : (apos.endLine == pos.line) = true := by rfl) : PX X E (.Call (.Attribute a "pop" apos) [] [] pos) (popV Fa) :=
  pe_weak (pe_bm0 PySem.F.plainAttrs_list PySem.F.slot_list_pop PySem.F.type_list_pop mt_pop ho hbase hline) fun σ H Q ⟨W, ρ, μ, r, h, e, q⟩ => by
    refine tX_bind h e q fun v o W1 H1 μ1 g1 h1 ro e1 q1 => ?_
    obtain ⟨t, xs, rfl, et, e1⟩ := tag_bind e1
    obtain ⟨ht, rfl⟩ := ro
    obtain ⟨vs, z1, z2⟩ := h1.rel.obj t _ et
    obtain ⟨x, ex, e1⟩ := orFail_some e1
    refine ⟨.inl ⟨rfl, vs, SqL.of z1⟩, ?_⟩
    obtain ⟨u, a1, a2⟩ := z2.get ex
    obtain ⟨R3, g3, e3⟩ := write_rel h1.rel et (drop_rels z2) e1
    cases e3
    refine ⟨W1.η t, vs, u, rfl, rfl, z1, ?_, q1 _ _ g3 R3 _ (a2.grow g3)⟩
    rw [z2.len]
    exact a1
end

/-! ### statements -/
inductive Out where
  | nx (ρ : Rho)
  | rt (s : Sv)
  | bk (ρ : Rho)
  | ct (ρ : Rho)
def OutOk (K : PySem.W.Frag) (D : Ends) (W : Wd) (H : Hp) (o : Out) (μ : Mu) : Prop := match o with
  | .nx ρ => ∀ σ, Sls K W μ.length σ ρ → D.nx σ H
  | .rt s => ∀ v, SvR K W μ.length v s → D.rt v H
  | .bk ρ => ∀ σ, Sls K W μ.length σ ρ → D.bk σ H
  | .ct ρ => ∀ σ, Sls K W μ.length σ ρ → D.ct σ H
def tG (K : PySem.W.Frag) (E : XK) (G : Rho → M Out) : TS := fun D σ H => ∃ W ρ μ r, Here K W σ H ρ μ ∧ G ρ μ = some r ∧ Ko K E W H μ r (OutOk K D)
abbrev PSX (X : Cx) (E : XK) (st : Stmt) (G : Rho → M Out) : Prop := PS X st (tG X.K E G)
abbrev PSSX (X : Cx) (E : XK) (st : List Stmt) (G : Rho → M Out) : Prop := PSs X st (tG X.K E G)
section
variable {X : Cx} {E : XK} {e a b c : Expr} {Fa Fb Fc : Rho → M Sv} {G G' : Rho → M Out} {st : Stmt} {rest body : List Stmt} {pos p : Pos}
theorem tG_bind {α : Type} {K : PySem.W.Frag} {W : Wd} {σ : L2.St} {H : Hp} {ρ : Rho} {μ : Mu} {k : Out → M α} {r : Res α} {P : Wd → Hp → α → Mu → Prop} {D : Ends} (h : Here K W σ H ρ μ) (e : M.bind (G ρ) k μ = some r) (q : Ko K E W H μ r P)
    (step : ∀ o W1 H1 μ1, Grow W H μ W1 H1 μ1 → Rel K W1 H1 μ1 → k o μ1 = some r → Ko K E W1 H1 μ1 r P → OutOk K D W1 H1 o μ1) : tG K E G D σ H := by
  rcases bind_some e with ⟨a, μ1, e1, e2⟩ | ⟨c, μ1, e1, rfl⟩
  · exact ⟨W, ρ, μ, _, h, e1, fun W1 H1 g R => step a W1 H1 μ1 g R e2 (q.later g)⟩
  · exact ⟨W, ρ, μ, _, h, e1, q⟩
def gSkip (ρ : Rho) : M Out := M.ret (.nx ρ)
def gSeq (G G' : Rho → M Out) (ρ : Rho) : M Out := (G ρ).bind fun o => match o with
  | .nx ρ' => G' ρ'
  | o => M.ret o
theorem q_nil : PSSX X E [] gSkip := pss_weak pss_nil fun D σ H ⟨W, ρ, μ, r, h, e, q⟩ => by
  cases e
  exact q _ _ (Grow.refl _ _ _) h.rel _ h.sl
theorem q_one (h : PSX X E st G) : PSSX X E [st] G := pss_one h
theorem q_cons (h : PSX X E st G) (h2 : PSSX X E rest G') : PSSX X E (st :: rest) (gSeq G G') := pss_weak (pss_cons h h2) fun D σ H ⟨W, ρ, μ, r, h, e, q⟩ => by
  refine tG_bind h e q fun o W1 H1 μ1 g R e1 q1 => ?_
  cases o with
  | nx ρ' => exact fun σ' s' => ⟨W1, ρ', μ1, r, ⟨R, s'⟩, e1, q1⟩
  | rt s =>
    cases e1
    exact q1 _ _ (Grow.refl _ _ _) R
  | bk ρ' =>
    cases e1
    exact q1 _ _ (Grow.refl _ _ _) R
  | ct ρ' =>
    cases e1
    exact q1 _ _ (Grow.refl _ _ _) R
theorem s_pass : PSX X E (.Pass pos) gSkip := ps_weak ps_pass fun D σ H ⟨W, ρ, μ, r, h, e, q⟩ => by
  cases e
  exact q _ _ (Grow.refl _ _ _) h.rel _ h.sl
theorem s_doc {x : Str} {j pos pos'} : PSX X E (.Expr (.Constant (.str x) j pos) pos') gSkip := ps_weak ps_doc fun D σ H ⟨W, ρ, μ, r, h, e, q⟩ => by
  cases e
  exact q _ _ (Grow.refl _ _ _) h.rel _ h.sl
theorem s_break : PSX X E (.Break pos) (fun ρ => M.ret (.bk ρ)) := ps_weak ps_break fun D σ H ⟨W, ρ, μ, r, h, e, q⟩ => by
  cases e
  exact q _ _ (Grow.refl _ _ _) h.rel _ h.sl
theorem s_continue : PSX X E (.Continue pos) (fun ρ => M.ret (.ct ρ)) := ps_weak ps_continue fun D σ H ⟨W, ρ, μ, r, h, e, q⟩ => by
  cases e
  exact q _ _ (Grow.refl _ _ _) h.rel _ h.sl
def gExpr (Fa : Rho → M Sv) (ρ : Rho) : M Out := (Fa ρ).bind fun _ => M.ret (.nx ρ)
theorem s_expr (ha : PX X E a Fa) (hs : swapsWith a none pos.line X.env = pure false := by rfl) : PSX X E (.Expr a pos) (gExpr Fa) := ps_weak (ps_expr ha hs) fun D σ H ⟨W, ρ, μ, r, h, e, q⟩ => by
  refine tX_bind h e q fun v s W1 H1 μ1 g1 h1 rs e1 q1 => ?_
  cases e1
  exact q1 _ _ (Grow.refl _ _ _) h1.rel _ h1.sl
def gRet (Fa : Rho → M Sv) (ρ : Rho) : M Out := (Fa ρ).bind fun s => M.ret (.rt s)
theorem s_ret (ha : PX X E a Fa) : PSX X E (.Return (some a) pos) (gRet Fa) := ps_weak (ps_ret ha) fun D σ H ⟨W, ρ, μ, r, h, e, q⟩ => by
  refine tX_bind h e q fun v s W1 H1 μ1 g1 h1 rs e1 q1 => ?_
  cases e1
  exact q1 _ _ (Grow.refl _ _ _) h1.rel _ rs
theorem s_retN : PSX X E (.Return none pos) (fun _ => M.ret (.rt (.dat .none))) := ps_weak ps_retN fun D σ H ⟨W, ρ, μ, r, h, e, q⟩ => by
  cases e
  exact q _ _ (Grow.refl _ _ _) h.rel _ .non
def gIf (F : Rho → M Bool) (G G' : Rho → M Out) (ρ : Rho) : M Out := (F ρ).bind fun k => if k = true then G ρ else G' ρ
theorem s_if {F : Rho → M Bool} {els : List Stmt} (hc : PTX X E c F) (ha : PSSX X E body G) (hb : PSSX X E els G') : PSX X E (.If c body els pos) (gIf F G G') := ps_weak (ps_if hc ha hb) fun D σ H ⟨W, ρ, μ, r, h, e, q⟩ => by
  refine tT_bind h e q fun k W1 H1 μ1 g1 h1 e1 q1 => ?_
  cases k with
  | false =>
    rw [if_neg Bool.false_ne_true] at e1 ⊢
    exact ⟨W1, ρ, μ1, r, h1, e1, q1⟩
  | true =>
    rw [if_pos rfl] at e1 ⊢
    exact ⟨W1, ρ, μ1, r, h1, e1, q1⟩
/-! targets -/
def tP (K : PySem.W.Frag) (E : XK) (T : Sv → Rho → M Rho) : TG := fun v σ H Q => ∃ W ρ μ s r, Here K W σ H ρ μ ∧ SvR K W μ.length v s ∧ T s ρ μ = some r ∧ Ko K E W H μ r fun W' H' ρ' μ' => ∀ σ', Sls K W' μ'.length σ' ρ' → Q σ' H'
def tPs (K : PySem.W.Frag) (E : XK) (T : List Sv → Rho → M Rho) : TGs := fun v σ H Q => ∃ W ρ μ s r, Here K W σ H ρ μ ∧ SvRs K W μ.length v s ∧ T s ρ μ = some r ∧ Ko K E W H μ r fun W' H' ρ' μ' => ∀ σ', Sls K W' μ'.length σ' ρ' → Q σ' H'
abbrev PGX (X : Cx) (E : XK) (tg : Expr) (T : Sv → Rho → M Rho) : Prop := PG X tg (tP X.K E T)
abbrev PGsX (X : Cx) (E : XK) (tg : List Expr) (T : List Sv → Rho → M Rho) : Prop := PGs X tg (tPs X.K E T)
theorem pg_weak {X : Cx} {tg : Expr} {t t' : TG} (h : PG X tg t) (w : ∀ v σ H Q, t' v σ H Q → t v σ H Q) : PG X tg t' := ⟨fun pins s σ H v u Q I r q => h.run pins s σ H v u Q I r (w _ _ _ _ q)⟩
theorem pgs_weak {X : Cx} {tg : List Expr} {t t' : TGs} (h : PGs X tg t) (w : ∀ v σ H Q, t' v σ H Q → t v σ H Q) : PGs X tg t' := ⟨fun pins s σ H v u Q I r q => h.run pins s σ H v u Q I r (w _ _ _ _ q)⟩
def gNm (i : Nat) (s : Sv) (ρ : Rho) : M Rho := M.ret (ρ.set i (some s))
theorem pg_nm (i : Nat) {x : Str} (hN : X.N.Nodup) (hi : X.N[i]? = some x := by rfl) (hx : Loc X.env.scope x := by first | exact Or.inl rfl | exact Or.inr rfl) (hf : X.fn x = true ∨ X.env.scope.names.lookup x = some .local := by first | exact .inl rfl | exact .inr rfl) : PGX X E (.Name x pos) (gNm i) :=
  pg_weak (pg_name hN hi hx hf) fun v σ H Q ⟨W, ρ, μ, s, r, h, rs, e, q⟩ => by
    cases e
    exact q _ _ (Grow.refl _ _ _) h.rel _ (h.sl.set i rs)
def gsNil (ss : List Sv) (ρ : Rho) : M Rho := match ss with
  | [] => M.ret ρ
  | _ => M.fail
def gsCons (T : Sv → Rho → M Rho) (U : List Sv → Rho → M Rho) (ss : List Sv) (ρ : Rho) : M Rho := match ss with
  | s :: r => (T s ρ).bind fun ρ' => U r ρ'
  | _ => M.fail
theorem pgs_0 : PGsX X E [] gsNil := pgs_weak pgs_nil fun v σ H Q ⟨W, ρ, μ, s, r, h, rs, e, q⟩ => by
  unfold gsNil at e
  split at e
  · cases e
    cases rs
    exact ⟨rfl, q _ _ (Grow.refl _ _ _) h.rel _ h.sl⟩
  · cases e
theorem pgs_c {t : Expr} {ts : List Expr} {T : Sv → Rho → M Rho} {U : List Sv → Rho → M Rho} (h1 : PGX X E t T) (h2 : PGsX X E ts U) (hs : (assignEach (t :: ts) X.env).map (·.2) = assign t X.env :: (assignEach ts X.env).map (·.2) := by rfl) : PGsX X E (t :: ts) (gsCons T U) := pgs_weak (pgs_cons h1 h2 hs) fun v σ H Q ⟨W, ρ, μ, s, r, h, rs, e, q⟩ => by
  unfold gsCons at e
  split at e
  · cases rs with
    | cons r1 r2 =>
      refine ⟨_, _, rfl, ?_⟩
      rcases bind_some e with ⟨ρ', μ1, e1, e2⟩ | ⟨c, μ1, e1, rfl⟩
      · exact ⟨W, ρ, μ, _, _, h, r1, e1, fun W1 H1 g R σ1 s1 => ⟨W1, ρ', μ1, _, _, ⟨R, s1⟩, SvRs.grow g r2, e2, q.later g⟩⟩
      · exact ⟨W, ρ, μ, _, _, h, r1, e1, q⟩
  · cases e
def gTp (n : Nat) (U : List Sv → Rho → M Rho) (s : Sv) (ρ : Rho) : M Rho := match s with
  | .dat (.tuple ds) => if decide (ds.length = n) = true then U (ds.map Sv.dat) ρ else M.fail
  | _ => M.fail
theorem pg_tp {ts : List Expr} {U : List Sv → Rho → M Rho} {k : Nat} (n : Nat) (hc : X.calm = true) (h : PGsX X E ts U) (hn : (assignEach ts X.env).length = n := by rfl) (hst : (assignEach ts X.env).findIdx? (·.1) = none := by rfl) : PGX X E (.Tuple ts k pos) (gTp n U) := by
  refine pg_weak (pg_tup hc h hn hst) fun v σ H Q ⟨W, ρ, μ, s, r, h, rs, e, q⟩ => ?_
  unfold gTp at e
  split at e
  · obtain ⟨c, e⟩ := iff_ok e
    cases rs with
    | tup h1 r1 => exact ⟨_, _, rfl, seqT_mono h.rel.sub h1, by rw [r1.len]; exact of_decide_eq_true c, W, ρ, μ, _, r, h, rel_dats r1, e, q⟩
  · cases e
/-- xs[i] = v, xs a tagged list -/
def gSt (Fa Fb : Rho → M Sv) (s : Sv) (ρ : Rho) : M Rho := (Fa ρ).bind fun o => (Fb ρ).bind fun i => (asI i).bind fun k => (tagOf o).bind fun z => (orFail (ixN z.2.length k)).bind fun j => (wrt z.1 (z.2.set j s)).bind fun _ => M.ret ρ
theorem pg_st {o i : Expr} (ho : PX X E o Fa) (hi : PX X E i Fb) (hP : PG X (.Subscript o i pos) (gSub (tX X.K E Fa) (tX X.K E Fb) rSetL)) : PGX X E (.Subscript o i pos) (gSt Fa Fb) := pg_weak hP fun v σ H Q ⟨W, ρ, μ, s, r, h, rs, e, q⟩ => by
  refine tX_bind h e q fun u o W1 H1 μ1 g1 h1 ro e1 q1 => tX_bind h1 e1 q1 fun w i W2 H2 μ2 g2 h2 ri e2 q2 => ?_
  obtain ⟨k, rfl, e2⟩ := asI_bind e2
  cases ri
  obtain ⟨t, xs, rfl, et, e2⟩ := tag_bind e2
  obtain ⟨_, rfl⟩ := ro.grow g2
  obtain ⟨j, ej, e2⟩ := orFail_some e2
  obtain ⟨vs, z1, z2⟩ := h2.rel.obj t _ et
  obtain ⟨R3, g3, e3⟩ := write_rel h2.rel et (z2.set ((rs.grow g1).grow g2) j) e2
  cases e3
  exact ⟨_, vs, k, j, rfl, rfl, z1, by rw [z2.len]; exact ej, q2 _ _ g3 R3 _ (h2.sl.grow g3)⟩
def gAsg (Fa : Rho → M Sv) (T : Sv → Rho → M Rho) (ρ : Rho) : M Out := (Fa ρ).bind fun s => (T s ρ).bind fun ρ' => M.ret (.nx ρ')
theorem asg_ent {K : PySem.W.Frag} {W : Wd} {σ : L2.St} {H : Hp} {ρ : Rho} {μ : Mu} {T : Sv → Rho → M Rho} {s : Sv} {v : V} {r : Res Out} {D : Ends} (h : Here K W σ H ρ μ) (rs : SvR K W μ.length v s) (e : M.bind (T s ρ) (fun ρ' => M.ret (.nx ρ')) μ = some r) (q : Ko K E W H μ r (OutOk K D)) :
    tP K E T v σ H D.nx := by
  rcases bind_some e with ⟨ρ', μ1, e1, e2⟩ | ⟨c, μ1, e1, rfl⟩
  · cases e2
    exact ⟨W, ρ, μ, s, _, h, rs, e1, fun W1 H1 g R => q W1 H1 g R⟩
  · exact ⟨W, ρ, μ, s, _, h, rs, e1, q⟩
theorem s_asg {tg : Expr} {T : Sv → Rho → M Rho} (ha : PX X E a Fa) (hg : PGX X E tg T) (hs : swapsWithSole [tg] a pos.line X.env = pure false := by rfl) (hw : swappedStores [tg] a X.env = pure none := by rfl) (h1 : (assignEach [tg] X.env).map (·.2) = [assign tg X.env] := by rfl) : PSX X E (.Assign [tg] a pos) (gAsg Fa T) :=
  ps_weak (ps_asg ha hg hs hw h1) fun D σ H ⟨W, ρ, μ, r, h, e, q⟩ => tX_bind h e q fun v s W1 H1 μ1 g1 h1 rs e1 q1 => asg_ent h1 rs e1 q1
def gSet (i : Nat) (Fa : Rho → M Sv) (ρ : Rho) : M Out := (Fa ρ).bind fun s => M.ret (.nx (ρ.set i (some s)))
theorem s_set (i : Nat) {x : Str} {pos' : Pos} (hN : X.N.Nodup) (ha : PX X E a Fa) (hi : X.N[i]? = some x := by rfl) (hx : Loc X.env.scope x := by first | exact Or.inl rfl | exact Or.inr rfl) (hs : swapsWith a (some (.Name x pos')) pos.line X.env = pure false := by rfl)
    (hf : X.fn x = true ∨ X.env.scope.names.lookup x = some .local := by first | exact .inl rfl | exact .inr rfl) : PSX X E (.Assign [.Name x pos'] a pos) (gSet i Fa) := ps_weak (ps_set hN hi hx ha hs hf) fun D σ H ⟨W, ρ, μ, r, h, e, q⟩ => by
  refine tX_bind h e q fun v s W1 H1 μ1 g1 h1 rs e1 q1 => ?_
  cases e1
  exact q1 _ _ (Grow.refl _ _ _) h1.rel _ (h1.sl.set i rs)
def gPar (i j : Nat) (Fs : Rho → M (List Sv)) (ρ : Rho) : M Out := (Fs ρ).bind fun ss => match ss with
  | [s, t] => M.ret (.nx ((ρ.set i (some s)).set j (some t)))
  | _ => M.fail
theorem s_par (i j : Nat) {x y : Str} {px py pt : Pos} {kt k2 pt2} {Fs : Rho → M (List Sv)} (hc : X.calm = true) (hN : X.N.Nodup) (ha : PAX X E [a, b] Fs) (hw : swappedStores [.Tuple [.Name x px, .Name y py] kt pt] (.Tuple [a, b] k2 pt2) X.env = pure (some [x, y]))
    (hi : X.N[i]? = some x := by rfl) (hj : X.N[j]? = some y := by rfl) (hij : i ≠ j := by decide) (hx : X.env.scope.names.lookup x = some .local := by rfl) (hy : X.env.scope.names.lookup y = some .local := by rfl)
    (hs : swapsWithSole [.Tuple [.Name x px, .Name y py] kt pt] (.Tuple [a, b] k2 pt2) pos.line X.env = pure false := by rfl) : PSX X E (.Assign [.Tuple [.Name x px, .Name y py] kt pt] (.Tuple [a, b] k2 pt2) pos) (gPar i j Fs) :=
  ps_weak (ps_par hc hN hi hj hij hx hy ha hw hs) fun D σ H ⟨W, ρ, μ, r, h, e, q⟩ => by
    refine tAr_bind h e q fun vs ss W1 H1 μ1 g1 h1 rs e1 q1 => ?_
    split at e1
    · cases e1
      obtain ⟨v, w, rfl, r1, r2⟩ := rels2 rs
      exact ⟨v, w, rfl, q1 _ _ (Grow.refl _ _ _) h1.rel _ ((h1.sl.set i r1).set j r2)⟩
    · cases e1
theorem rels3 {K : PySem.W.Frag} {W : Wd} {n : Nat} {xs : List V} {s t u : Sv} (h : SvRs K W n xs [s, t, u]) : ∃ x y z, xs = [x, y, z] ∧ SvR K W n x s ∧ SvR K W n y t ∧ SvR K W n z u := by
  cases h with
  | cons h r =>
    obtain ⟨y, z, rfl, h2, h3⟩ := rels2 r
    exact ⟨_, y, z, rfl, h, h2, h3⟩
def gPar3 (i j l : Nat) (Fs : Rho → M (List Sv)) (ρ : Rho) : M Out := (Fs ρ).bind fun ss => match ss with
  | [s, t, u] => M.ret (.nx (((ρ.set i (some s)).set j (some t)).set l (some u)))
  | _ => M.fail
theorem s_par3 (i j l : Nat) {x y z : Str} {px py pz pt : Pos} {kt k2 pt2} {Fs : Rho → M (List Sv)} (hc : X.calm = true) (hN : X.N.Nodup) (ha : PAX X E [a, b, c] Fs)
    (hw : swappedStores [.Tuple [.Name x px, .Name y py, .Name z pz] kt pt] (.Tuple [a, b, c] k2 pt2) X.env = pure (some [x, y, z]))
    (hi : X.N[i]? = some x := by rfl) (hj : X.N[j]? = some y := by rfl) (hl : X.N[l]? = some z := by rfl) (hij : i ≠ j := by decide) (hil : i ≠ l := by decide) (hjl : j ≠ l := by decide) (hx : X.env.scope.names.lookup x = some .local := by rfl) (hy : X.env.scope.names.lookup y = some .local := by rfl)
    (hz : X.env.scope.names.lookup z = some .local := by rfl) (hs : swapsWithSole [.Tuple [.Name x px, .Name y py, .Name z pz] kt pt] (.Tuple [a, b, c] k2 pt2) pos.line X.env = pure false := by rfl) :
    PSX X E (.Assign [.Tuple [.Name x px, .Name y py, .Name z pz] kt pt] (.Tuple [a, b, c] k2 pt2) pos) (gPar3 i j l Fs) :=
  ps_weak (ps_par3 hc hN hi hj hl hij hil hjl hx hy hz ha hw hs) fun D σ H ⟨W, ρ, μ, r, h, e, q⟩ => by
    refine tAr_bind h e q fun vs ss W1 H1 μ1 g1 h1 rs e1 q1 => ?_
    split at e1
    · cases e1
      obtain ⟨v, w, u, rfl, r1, r2, r3⟩ := rels3 rs
      exact ⟨v, w, u, rfl, q1 _ _ (Grow.refl _ _ _) h1.rel _ (((h1.sl.set i r1).set j r2).set l r3)⟩
    · cases e1
def gAug (i : Nat) (op : Sv → Sv → M Sv) (Fa : Rho → M Sv) (ρ : Rho) : M Out := (slot i ρ).bind fun s => (Fa ρ).bind fun t => (op s t).bind fun u => M.ret (.nx (ρ.set i (some u)))
/-- n += e, ints -/
def pInts (f : Int → Int → Int) (a b : Sv) : M Sv := match a, b with
  | .dat (.int i), .dat (.int j) => M.ret (.dat (.int (f i j)))
  | _, _ => M.fail
theorem s_augI (i : Nat) {x : Str} {pos' : Pos} {op : Operator} {f : Int → Int → Int} (hN : X.N.Nodup) (ho : PIp X op (ipI f)) (ha : PX X E a Fa) (hi : X.N[i]? = some x := by rfl) (hx : Loc X.env.scope x := by first | exact Or.inl rfl | exact Or.inr rfl)
    (hf : X.fn x = true ∨ X.env.scope.names.lookup x = some .local := by first | exact .inl rfl | exact .inr rfl) : PSX X E (.AugAssign (.Name x pos') op a pos) (gAug i (pInts f) Fa) := ps_weak (ps_aug hN hi hx ha ho hf) fun D σ H ⟨W, ρ, μ, r, h, e, q⟩ => by
  rcases bind_some e with ⟨s, μ1, e1, e2⟩ | ⟨c, μ1, e1, rfl⟩
  · obtain ⟨s', hs, z⟩ := slot_some e1
    cases z
    obtain ⟨v, a1, a2⟩ := h.sl.at_ i s hs
    refine ⟨v, a1, tX_bind h e2 q fun u t W1 H1 μ1 g1 h1 rt e3 q1 => ?_⟩
    rcases bind_some e3 with ⟨w, μ2, e4, e5⟩ | ⟨c, μ2, e4, rfl⟩
    · unfold pInts at e4
      split at e4
      · cases e4
        cases e5
        exact ⟨_, _, dq_int (a2.grow g1), dq_int rt, q1 _ _ (Grow.refl _ _ _) h1.rel _ (h1.sl.set i (.int _))⟩
      · cases e4
    · unfold pInts at e4
      split at e4
      · cases e4
      · cases e4
  · obtain ⟨_, _, z⟩ := slot_some e1
    cases z

/-! ### what a for walks -/
structure Wk (K : PySem.W.Frag) (J : It) (W : Wd) (ds : List PyData) : Prop where
  go : ∀ (i : Nat) (d : PyData) (W1 : Wd) (H : Hp) (μ : Mu), Same W.S W1.S → Rel K W1 H μ → ds[i]? = some d → J.go i H
  yld : ∀ (i : Nat) (d : PyData) (W1 : Wd) (H : Hp) (μ : Mu) (x : V) (H' : Hp), Same W.S W1.S → Rel K W1 H μ → ds[i]? = some d → J.yld i H x H' → ∃ W2, Grow W1 H μ W2 H' μ ∧ Rel K W2 H' μ ∧ Dq K W2.S x d
  stop : ∀ (i : Nat) (W1 : Wd) (H : Hp) (μ : Mu), Same W.S W1.S → Rel K W1 H μ → ds.length ≤ i → J.stop i H
def tI (K : PySem.W.Frag) (E : XK) (F : Rho → M (List PyData)) : TI := fun σ H R => ∃ W ρ μ r, Here K W σ H ρ μ ∧ F ρ μ = some r ∧ Ko K E W H μ r fun W' H' ds μ' => ∀ J, Wk K J W' ds → R J H'
abbrev PIX (X : Cx) (E : XK) (tg : Expr) (e : Expr) (F : Rho → M (List PyData)) : Prop := PI X tg e (tI X.K E F)
theorem pi_weak {X : Cx} {tg e : Expr} {t t' : TI} (h : PI X tg e t) (w : ∀ σ H Q, t' σ H Q → t σ H Q) : PI X tg e t' := ⟨fun pins s σ H Q I q => h.run pins s σ H Q I (w _ _ _ q)⟩
theorem wk_list {K : PySem.W.Frag} {W : Wd} {a : Addr} {vs : List V} {ds : List PyData} (h : W.S a = some (.lst vs)) (r : Dqs K W.S vs ds) : Wk K (Itl K a) W ds where
  go := fun i d W1 H μ g R e => by
    obtain ⟨v, a1, _⟩ := r.getD e
    exact ⟨vs, v, SqL.of (R.sub _ _ (g _ _ h)), a1⟩
  yld := fun i d W1 H μ x H' g R e y => by
    obtain ⟨rfl, y2⟩ := y
    obtain ⟨v, a1, a2⟩ := r.getD e
    have z := y2 vs (SqL.of (R.sub _ _ (g _ _ h)))
    rw [a1] at z
    cases z
    exact ⟨W1, Grow.refl _ _ _, R, Dq.mono g a2⟩
  stop := fun i W1 H μ g R e => ⟨vs, SqL.of (R.sub _ _ (g _ _ h)), by rw [r.len]; exact e⟩
theorem wk_tup {K : PySem.W.Frag} {W : Wd} {a : Addr} {vs : List V} {ds : List PyData} (h : SqT K W.S a vs) (r : Dqs K W.S vs ds) : Wk K (Itt K a) W ds where
  go := fun i d W1 H μ g R e => by
    obtain ⟨v, a1, _⟩ := r.getD e
    exact ⟨vs, v, seqT_mono R.sub (seqT_mono g h), a1⟩
  yld := fun i d W1 H μ x H' g R e y => by
    obtain ⟨rfl, y2⟩ := y
    obtain ⟨v, a1, a2⟩ := r.getD e
    have z := y2 vs (seqT_mono R.sub (seqT_mono g h))
    rw [a1] at z
    cases z
    exact ⟨W1, Grow.refl _ _ _, R, Dq.mono g a2⟩
  stop := fun i W1 H μ g R e => ⟨vs, seqT_mono R.sub (seqT_mono g h), by rw [r.len]; exact e⟩
/-- a for over a list or a tuple of data -/
def seqOf (s : Sv) : M (List PyData) := match s with
  | .dat (.list ds) => M.ret ds
  | .dat (.tuple ds) => M.ret ds
  | _ => M.fail
def seqV (Fa : Rho → M Sv) (ρ : Rho) : M (List PyData) := (Fa ρ).bind seqOf
theorem i_seq {tg : Expr} (ha : PX X E a Fa) : PIX X E tg a (seqV Fa) := by
  refine ⟨fun pins s σ H R I ⟨W, ρ, μ, r, h, e, q⟩ => ?_⟩
  rcases bind_some e with ⟨x, μ1, e1, e2⟩ | ⟨c, μ1, e1, rfl⟩
  · have e2' := e2
    unfold seqOf at e2
    split at e2
    · refine (pi_list ha).run pins s σ H R I ⟨W, ρ, μ, _, h, e1, fun W1 H1 g R1 v rv => ?_⟩
      cases e2
      cases rv with
      | lst h1 r1 => exact ⟨_, rfl, ⟨_, SqL.of (R1.sub _ _ h1)⟩, q W1 H1 g R1 _ (wk_list h1 r1)⟩
    · refine (pi_tup ha).run pins s σ H R I ⟨W, ρ, μ, _, h, e1, fun W1 H1 g R1 v rv => ?_⟩
      cases e2
      cases rv with
      | tup h1 r1 => exact ⟨_, rfl, ⟨_, seqT_mono R1.sub h1⟩, q W1 H1 g R1 _ (wk_tup h1 r1)⟩
    · cases e2
  · exact (pi_list ha).run pins s σ H R I ⟨W, ρ, μ, _, h, e1, q⟩
def upto (n : Nat) : List PyData := (List.range n).map fun k => .int (k : Nat)
def fromTo (lo : Int) (n : Nat) : List PyData := (List.range n).map fun k => .int (lo + (k : Nat))
theorem wk_range {K : PySem.W.Frag} {W : Wd} {lo : Int} {n : Nat} : Wk K (Itr lo n) W (fromTo lo n) where
  go := fun i d W1 H μ g R e => by
    have := (List.getElem?_eq_some_iff.mp e).1
    show i < n
    simpa [fromTo] using this
  yld := fun i d W1 H μ x H' g R e y => by
    obtain ⟨rfl, rfl⟩ := y
    have hi : i < n := by
      have := (List.getElem?_eq_some_iff.mp e).1
      simpa [fromTo] using this
    have : d = .int (lo + (i : Nat)) := by
      unfold fromTo at e
      rw [List.getElem?_map, List.getElem?_range hi] at e
      exact (Option.some.inj e).symm
    subst this
    exact ⟨W1, Grow.refl _ _ _, R, .int _⟩
  stop := fun i W1 H μ g R e => by
    show n ≤ i
    simpa [fromTo] using e
def big62 (i : Int) : Bool := decide (-(2 ^ 62) ≤ i) && decide (i < 2 ^ 62)
def rngV (Fa : Rho → M Sv) (ρ : Rho) : M (List PyData) := (Fa ρ).bind fun s => (asI s).bind fun i => if big62 i = true then M.ret (fromTo 0 i.toNat) else M.fail
theorem i_rng {tg : Expr} (hg : Gl X "range") (hm : X.mg "range" = none) (ha : PX X E a Fa) (hs : starEach [a] X.env = (false, eval a X.env) :: starEach [] X.env := by rfl) (hs2 : starEach [a] X.env = [(false, eval a X.env)] := by rfl) : PIX X E tg (.Call (.Name "range" p) [a] [] pos) (rngV Fa) :=
  pi_weak (pi_range1 hg hm (pa_cons ha pa_nil hs) hs2) fun σ H R ⟨W, ρ, μ, r, h, e, q⟩ => by
    refine tX_bind h e q fun v s W1 H1 μ1 g1 h1 rs e1 q1 => ?_
    obtain ⟨i, rfl, e1⟩ := asI_bind e1
    obtain ⟨c, e1⟩ := iff_ok e1
    obtain ⟨c1, c2⟩ := Bool.and_eq_true_iff.mp c
    cases rs
    cases e1
    exact ⟨i, rfl, of_decide_eq_true c1, of_decide_eq_true c2, q1 _ _ (Grow.refl _ _ _) h1.rel _ wk_range⟩
end
end Pf

namespace Pf
open PySem PySem.Spec PyProof.Rows L2

section
variable {X : Cx} {E : XK} {e a b c iter tg : Expr} {Fa Fb Fc : Rho → M Sv} {G G' B : Rho → M Out} {st : Stmt} {rest body : List Stmt} {pos p : Pos} {T : Sv → Rho → M Rho} {Fi : Rho → M (List PyData)}
/-! ### for -/
def loopG (T : Sv → Rho → M Rho) (B : Rho → M Out) : List PyData → Rho → M Out
  | [], ρ => M.ret (.nx ρ)
  | d :: ds, ρ => (T (.dat d) ρ).bind fun ρ1 => (B ρ1).bind fun o => match o with
    | .nx ρ2 => loopG T B ds ρ2
    | .ct ρ2 => loopG T B ds ρ2
    | .bk ρ2 => M.ret (.nx ρ2)
    | .rt s => M.ret (.rt s)
def gFor (Fi : Rho → M (List PyData)) (T : Sv → Rho → M Rho) (B : Rho → M Out) (ρ : Rho) : M Out := (Fi ρ).bind fun ds => loopG T B ds ρ
theorem s_for (hp : PassesOwn (model X.prog X.w) X.A X.env X.xe) (hc : X.calm = true) (hi : PIX X E tg iter Fi) (hg : PGX X E tg T) (hb : PSSX X E body B) (hs : ∀ x, foldedSetIterable iter X.env x = pure x := by intro _; rfl) :
    PSX X E (.For tg iter body [] pos) (gFor Fi T B) := ps_weak (ps_for hp hc hi hg hb hs) fun D σ H ⟨W0, ρ0, μ0, r, h0, e0, q0⟩ => by
  rcases bind_some e0 with ⟨ds, μ1, e1, e2⟩ | ⟨c, μ1, e1, rfl⟩
  · refine ⟨W0, ρ0, μ0, _, h0, e1, fun W1 H1 g1 R1 J wk => ?_⟩
    have q1 := q0.later g1
    refine ⟨fun i m σ H => m = ds.length - i ∧ i ≤ ds.length ∧ ∃ W ρ μ, Here X.K W σ H ρ μ ∧ Same W1.S W.S ∧ loopG T B (ds.drop i) ρ μ = some r ∧ Ko X.K E W H μ r (OutOk X.K D),
      ⟨ds.length, rfl, Nat.zero_le _, W1, ρ0, μ1, h0.next g1 R1, Same.refl _, e2, q1⟩, ?_⟩
    rintro i m σ H ⟨rfl, hi, W, ρ, μ, h, sm, e, q⟩
    by_cases hlt : i < ds.length
    · have hd : ds[i]? = some ds[i] := List.getElem?_eq_getElem hlt
      rw [List.drop_eq_getElem_cons hlt] at e
      refine .inr ⟨wk.go i _ W H μ sm h.rel hd, fun σ' H' => ∃ W ρ μ, Here X.K W σ' H' ρ μ ∧ Same W1.S W.S ∧ loopG T B (ds.drop (i + 1)) ρ μ = some r ∧ Ko X.K E W H' μ r (OutOk X.K D),
        fun σ' H' hN => ⟨ds.length - (i + 1), by omega, rfl, hlt, hN⟩, fun x H' hy => ?_⟩
      obtain ⟨W2, g2, R2, hx⟩ := wk.yld i _ W H μ x H' sm h.rel hd hy
      have h2 : Here X.K W2 σ H' ρ μ := h.next g2 R2
      have q2 := q.later g2
      have sm2 : Same W1.S W2.S := sm.trans g2.same
      have e' : M.bind (T (.dat ds[i]) ρ) (fun ρ1 => (B ρ1).bind fun o => match o with
        | .nx ρ2 => loopG T B (ds.drop (i + 1)) ρ2
        | .ct ρ2 => loopG T B (ds.drop (i + 1)) ρ2
        | .bk ρ2 => M.ret (.nx ρ2)
        | .rt s => M.ret (.rt s)) μ = some r := e
      rcases bind_some e' with ⟨ρ1, μ3, e3, e4⟩ | ⟨c, μ3, e3, rfl⟩
      · refine ⟨W2, ρ, μ, .dat ds[i], _, h2, hx, e3, fun W3 H3 g3 R3 σ3 s3 => ?_⟩
        refine tG_bind ⟨R3, s3⟩ e4 (q2.later g3) fun o W4 H4 μ4 g4 R4 e5 q5 => ?_
        have sm4 : Same W1.S W4.S := (sm2.trans g3.same).trans g4.same
        cases o with
        | nx ρ4 => exact fun σ4 s4 => ⟨W4, ρ4, μ4, ⟨R4, s4⟩, sm4, e5, q5⟩
        | ct ρ4 => exact fun σ4 s4 => ⟨W4, ρ4, μ4, ⟨R4, s4⟩, sm4, e5, q5⟩
        | bk ρ4 =>
          cases e5
          exact q5 _ _ (Grow.refl _ _ _) R4
        | rt s =>
          cases e5
          exact q5 _ _ (Grow.refl _ _ _) R4
      · exact ⟨W2, ρ, μ, .dat ds[i], _, h2, hx, e3, q2⟩
    · refine .inl ⟨wk.stop i W H μ sm h.rel (by omega), ?_⟩
      rw [List.drop_eq_nil_of_le (by omega)] at e
      cases e
      exact q _ _ (Grow.refl _ _ _) h.rel _ h.sl
  · exact ⟨W0, ρ0, μ0, _, h0, e1, q0⟩

/-! ### while, by a bound on its turns -/
def loopW (F : Rho → M Bool) (B : Rho → M Out) : Nat → Rho → M Out
  | 0, _ => M.fail
  | n + 1, ρ => (F ρ).bind fun k => if k = true then (B ρ).bind fun o => match o with
    | .nx ρ2 => loopW F B n ρ2
    | .ct ρ2 => loopW F B n ρ2
    | .bk ρ2 => M.ret (.nx ρ2)
    | .rt s => M.ret (.rt s) else M.ret (.nx ρ)
theorem s_while (n : Nat) {F : Rho → M Bool} (hp : PassesOwn (model X.prog X.w) X.A X.env X.xe) (hc : PTX X E c F) (hb : PSSX X E body B) : PSX X E (.While c body [] pos) (loopW F B n) := ps_weak (ps_while hp hc hb) fun D σ H ⟨W0, ρ0, μ0, r, h0, e0, q0⟩ => by
  refine ⟨fun m σ H => ∃ W ρ μ, Here X.K W σ H ρ μ ∧ loopW F B m ρ μ = some r ∧ Ko X.K E W H μ r (OutOk X.K D), ⟨n, W0, ρ0, μ0, h0, e0, q0⟩, ?_⟩
  rintro m σ H ⟨W, ρ, μ, h, e, q⟩
  cases m with
  | zero => cases e
  | succ m =>
    refine tT_bind h e q fun k W1 H1 μ1 g1 h1 e1 q1 => ?_
    cases k with
    | false =>
      rw [if_neg Bool.false_ne_true] at e1 ⊢
      cases e1
      exact q1 _ _ (Grow.refl _ _ _) h1.rel _ h1.sl
    | true =>
      rw [if_pos rfl] at e1 ⊢
      refine ⟨fun σ' H' => ∃ W ρ μ, Here X.K W σ' H' ρ μ ∧ loopW F B m ρ μ = some r ∧ Ko X.K E W H' μ r (OutOk X.K D), fun σ' H' hN => ⟨m, Nat.lt_succ_self _, hN⟩, ?_⟩
      refine tG_bind h1 e1 q1 fun o W4 H4 μ4 g4 R4 e5 q5 => ?_
      cases o with
      | nx ρ4 => exact fun σ4 s4 => ⟨W4, ρ4, μ4, ⟨R4, s4⟩, e5, q5⟩
      | ct ρ4 => exact fun σ4 s4 => ⟨W4, ρ4, μ4, ⟨R4, s4⟩, e5, q5⟩
      | bk ρ4 =>
        cases e5
        exact q5 _ _ (Grow.refl _ _ _) R4
      | rt s =>
        cases e5
        exact q5 _ _ (Grow.refl _ _ _) R4

/-! ### comprehensions -/
/-- only these slots are written -/
def tPw (K : PySem.W.Frag) (E : XK) (vs : List Nat) (T : Sv → Rho → M Rho) : TG := fun v σ H Q => ∃ W ρ μ s r, Here K W σ H ρ μ ∧ SvR K W μ.length v s ∧ T s ρ μ = some r ∧ Ko K E W H μ r fun W' H' ρ' μ' => ∀ σ', Sls K W' μ'.length σ' ρ' → wipe σ' vs = wipe σ vs → Q σ' H'
def tPws (K : PySem.W.Frag) (E : XK) (vs : List Nat) (T : List Sv → Rho → M Rho) : TGs := fun v σ H Q => ∃ W ρ μ s r, Here K W σ H ρ μ ∧ SvRs K W μ.length v s ∧ T s ρ μ = some r ∧ Ko K E W H μ r fun W' H' ρ' μ' => ∀ σ', Sls K W' μ'.length σ' ρ' → wipe σ' vs = wipe σ vs → Q σ' H'
abbrev PGW (X : Cx) (E : XK) (vs : List Nat) (tg : Expr) (T : Sv → Rho → M Rho) : Prop := PG X tg (tPw X.K E vs T)
abbrev PGsW (X : Cx) (E : XK) (vs : List Nat) (tg : List Expr) (T : List Sv → Rho → M Rho) : Prop := PGs X tg (tPws X.K E vs T)
theorem wipe_out {σ : L2.St} {v : Option V} : ∀ {vs : List Nat} {i : Nat}, i ∈ vs → wipe (σ.set i v) vs = wipe σ vs
  | [], _, h => absurd h List.not_mem_nil
  | k :: vs, i, h => by
    show (wipe (σ.set i v) vs).set k none = (wipe σ vs).set k none
    by_cases hk : i ∈ vs
    · rw [wipe_out hk]
    · have hik : i = k := by
        rcases List.mem_cons.mp h with z | z
        · exact z
        · exact absurd z hk
      subst hik
      have comm : ∀ (ws : List Nat) (σ : L2.St), i ∉ ws → wipe (σ.set i v) ws = (wipe σ ws).set i v := fun ws => by
        induction ws with
        | nil => exact fun _ _ => rfl
        | cons w ws ih =>
          intro σ hw
          show (wipe (σ.set i v) ws).set w none = ((wipe σ ws).set w none).set i v
          rw [ih σ fun z => hw (List.mem_cons_of_mem _ z), List.set_comm _ _ fun z => hw (by rw [z]; exact List.mem_cons_self)]
      rw [comm vs σ hk, List.set_set]
theorem pw_nm (i : Nat) {vs : List Nat} {x : Str} (hN : X.N.Nodup) (hm : i ∈ vs) (hi : X.N[i]? = some x := by rfl) (hx : Loc X.env.scope x := by first | exact Or.inl rfl | exact Or.inr rfl) (hf : X.fn x = true ∨ X.env.scope.names.lookup x = some .local := by first | exact .inl rfl | exact .inr rfl) : PGW X E vs (.Name x pos) (gNm i) :=
  pg_weak (pg_name hN hi hx hf) fun v σ H Q ⟨W, ρ, μ, s, r, h, rs, e, q⟩ => by
    cases e
    exact q _ _ (Grow.refl _ _ _) h.rel _ (h.sl.set i rs) (wipe_out hm)
theorem pws_0 {vs : List Nat} : PGsW X E vs [] gsNil := pgs_weak pgs_nil fun v σ H Q ⟨W, ρ, μ, s, r, h, rs, e, q⟩ => by
  unfold gsNil at e
  split at e
  · cases e
    cases rs
    exact ⟨rfl, q _ _ (Grow.refl _ _ _) h.rel _ h.sl rfl⟩
  · cases e
theorem pws_c {vs : List Nat} {t : Expr} {ts : List Expr} {T : Sv → Rho → M Rho} {U : List Sv → Rho → M Rho} (h1 : PGW X E vs t T) (h2 : PGsW X E vs ts U) (hs : (assignEach (t :: ts) X.env).map (·.2) = assign t X.env :: (assignEach ts X.env).map (·.2) := by rfl) : PGsW X E vs (t :: ts) (gsCons T U) := pgs_weak (pgs_cons h1 h2 hs) fun v σ H Q ⟨W, ρ, μ, s, r, h, rs, e, q⟩ => by
  unfold gsCons at e
  split at e
  · cases rs with
    | cons r1 r2 =>
      refine ⟨_, _, rfl, ?_⟩
      rcases bind_some e with ⟨ρ', μ1, e1, e2⟩ | ⟨c, μ1, e1, rfl⟩
      · refine ⟨W, ρ, μ, _, _, h, r1, e1, fun W1 H1 g R σ1 s1 w1 => ⟨W1, ρ', μ1, _, r, ⟨R, s1⟩, SvRs.grow g r2, e2, ?_⟩⟩
        have q' := q.later g
        cases r with
        | ok ρ2 μ2 => exact fun W2 H2 g2 R2 σ2 s2 w2 => q' W2 H2 g2 R2 σ2 s2 (w2.trans w1)
        | ex c μ2 => exact q'
      · exact ⟨W, ρ, μ, _, _, h, r1, e1, q⟩
  · cases e
theorem pw_tp {vs : List Nat} {ts : List Expr} {U : List Sv → Rho → M Rho} {k : Nat} (n : Nat) (hc : X.calm = true) (h : PGsW X E vs ts U) (hn : (assignEach ts X.env).length = n := by rfl) (hst : (assignEach ts X.env).findIdx? (·.1) = none := by rfl) : PGW X E vs (.Tuple ts k pos) (gTp n U) := by
  refine pg_weak (pg_tup hc h hn hst) fun v σ H Q ⟨W, ρ, μ, s, r, h, rs, e, q⟩ => ?_
  unfold gTp at e
  split at e
  · obtain ⟨c, e⟩ := iff_ok e
    cases rs with
    | tup h1 r1 => exact ⟨_, _, rfl, seqT_mono h.rel.sub h1, by rw [r1.len]; exact of_decide_eq_true c, W, ρ, μ, _, r, h, rel_dats r1, e, q⟩
  · cases e
abbrev PTsX (X : Cx) (E : XK) (es : List Expr) (F : Rho → M Bool) : Prop := PTs X es (tT X.K E F)
theorem pts_weak {X : Cx} {e : List Expr} {t t' : TT} (h : PTs X e t) (w : ∀ σ H Q, t' σ H Q → t σ H Q) : PTs X e t' := ⟨fun pins s σ H Q I q => h.run pins s σ H Q I (w _ _ _ q)⟩
def yes (_ : Rho) : M Bool := M.ret true
theorem ts_nil : PTsX X E [] yes := pts_weak pts_nil fun σ H Q ⟨W, ρ, μ, r, h, e, q⟩ => by
  cases e
  exact q _ _ (Grow.refl _ _ _) h.rel
theorem ts_one {F : Rho → M Bool} (h : PTX X E c F) : PTsX X E [c] F := pts_one h
def wipeR (ρ : Rho) : List Nat → Rho
  | [] => ρ
  | v :: vs => (wipeR ρ vs).set v none
theorem wipe_sl {K : PySem.W.Frag} {W : Wd} {n : Nat} {σ : L2.St} {ρ : Rho} (h : Sls K W n σ ρ) : ∀ vs : List Nat, Sls K W n (wipe σ vs) (wipeR ρ vs)
  | [] => h
  | v :: vs => by
    have ih := wipe_sl h vs
    refine ⟨fun i x e => ?_, ?_⟩
    · have e' : ((wipeR ρ vs).set v none)[i]? = some (some x) := e
      by_cases hv : v = i
      · subst hv
        have hl : v < (wipeR ρ vs).length := by
          have := (List.getElem?_eq_some_iff.mp e').1
          simpa using this
        rw [List.getElem?_set_self hl] at e'
        cases e'
      · rw [List.getElem?_set_ne hv] at e'
        obtain ⟨u, a1, a2⟩ := ih.at_ i x e'
        exact ⟨u, by show ((wipe σ vs).set v none)[i]? = _; rw [List.getElem?_set_ne hv]; exact a1, a2⟩
    · show ((wipe σ vs).set v none).length = ((wipeR ρ vs).set v none).length
      rw [List.length_set, List.length_set, ih.len]
def noEx {α : Type} (m : M α) : M α := fun μ => match m μ with
  | some (.ok a μ') => some (.ok a μ')
  | _ => none
theorem noEx_bind {α β : Type} {m : M α} {k : α → M β} {μ : Mu} {r : Res β} (h : M.bind (noEx m) k μ = some r) : ∃ a μ1, m μ = some (.ok a μ1) ∧ k a μ1 = some r := by
  unfold M.bind noEx at h
  cases e : m μ with
  | none =>
    rw [e] at h
    cases h
  | some x =>
    rw [e] at h
    cases x with
    | ok a μ1 => exact ⟨a, μ1, rfl, h⟩
    | ex c μ1 => cases h
def lcL (T : Sv → Rho → M Rho) (C : Rho → M Bool) (Fe : Rho → M Sv) : List PyData → Rho → M (List Sv)
  | [], _ => M.ret []
  | d :: ds, ρ => (noEx (T (.dat d) ρ)).bind fun ρ1 => (noEx (C ρ1)).bind fun k => if k = true then (noEx (Fe ρ1)).bind fun s => (lcL T C Fe ds ρ).bind fun r => M.ret (s :: r) else lcL T C Fe ds ρ
def lcV (m : Bool) (vs : List Nat) (Fi : Rho → M (List PyData)) (T : Sv → Rho → M Rho) (C : Rho → M Bool) (Fe : Rho → M Sv) (ρ : Rho) : M Sv :=
  (Fi ρ).bind fun ds => if szOk ds.length = true then (lcL T C Fe ds (wipeR ρ vs)).bind fun ss => mkl m ss else M.fail
theorem lcL_len {T : Sv → Rho → M Rho} {C : Rho → M Bool} {Fe : Rho → M Sv} : ∀ {ds : List PyData} {ρ : Rho} {μ μ' : Mu} {ss : List Sv}, lcL T C Fe ds ρ μ = some (.ok ss μ') → ss.length ≤ ds.length
  | [], _, _, _, _, e => by
    cases e
    exact Nat.le_refl _
  | d :: ds, ρ, μ, μ', ss, e => by
    obtain ⟨ρ1, μ1, _, e⟩ := noEx_bind e
    obtain ⟨k, μ2, _, e⟩ := noEx_bind e
    cases k with
    | false =>
      rw [if_neg Bool.false_ne_true] at e
      exact Nat.le_succ_of_le (lcL_len e)
    | true =>
      rw [if_pos rfl] at e
      obtain ⟨s, μ3, _, e⟩ := noEx_bind e
      rcases bind_some e with ⟨r, μ4, e1, e2⟩ | ⟨c, μ4, e1, e2⟩
      · cases e2
        exact Nat.succ_le_succ (lcL_len e1)
      · cases e2
theorem lcL_noex {T : Sv → Rho → M Rho} {C : Rho → M Bool} {Fe : Rho → M Sv} : ∀ {ds : List PyData} {ρ : Rho} {μ μ' : Mu} {c : Exc}, lcL T C Fe ds ρ μ = some (.ex c μ') → False
  | [], _, _, _, _, e => nomatch e
  | d :: ds, ρ, μ, μ', c, e => by
    obtain ⟨ρ1, μ1, _, e⟩ := noEx_bind e
    obtain ⟨k, μ2, _, e⟩ := noEx_bind e
    cases k with
    | false =>
      rw [if_neg Bool.false_ne_true] at e
      exact lcL_noex e
    | true =>
      rw [if_pos rfl] at e
      obtain ⟨s, μ3, _, e⟩ := noEx_bind e
      rcases bind_some e with ⟨r, μ4, e1, e2⟩ | ⟨c, μ4, e1, e2⟩
      · cases e2
      · exact lcL_noex e1
theorem wipe_get {σ : L2.St} : ∀ {vs : List Nat} {i : Nat}, (wipe σ vs)[i]? = if i < σ.length then (if i ∈ vs then some none else σ[i]?) else none
  | [], i => by
    by_cases h : i < σ.length
    · rw [if_pos h, if_neg List.not_mem_nil]
      rfl
    · rw [if_neg h]
      exact List.getElem?_eq_none (show σ.length ≤ i by omega)
  | v :: vs, i => by
    show ((wipe σ vs).set v none)[i]? = _
    by_cases hv : v = i
    · subst hv
      by_cases h : v < σ.length
      · rw [if_pos h, if_pos List.mem_cons_self, List.getElem?_set_self (by rw [wipe_length]; exact h)]
      · rw [if_neg h]
        exact List.getElem?_eq_none (by rw [List.length_set, wipe_length]; omega)
    · rw [List.getElem?_set_ne hv, wipe_get]
      by_cases h : i < σ.length
      · rw [if_pos h, if_pos h]
        by_cases hm : i ∈ vs
        · rw [if_pos hm, if_pos (List.mem_cons_of_mem _ hm)]
        · rw [if_neg hm, if_neg fun z => by
            rcases List.mem_cons.mp z with z | z
            · exact hv z.symm
            · exact hm z]
      · rw [if_neg h, if_neg h]
theorem wipe_wipe {σ : L2.St} (vs : List Nat) : wipe (wipe σ vs) vs = wipe σ vs := by
  apply List.ext_getElem?
  intro i
  rw [wipe_get, wipe_length, wipe_get]
  by_cases h : i < σ.length
  · rw [if_pos h, if_pos h]
    by_cases hm : i ∈ vs
    · rw [if_pos hm, if_pos hm]
    · rw [if_neg hm, if_neg hm]
  · rw [if_neg h, if_neg h]
/-- what is asked of a comprehension, from the pure reading -/
theorem lc_ent {K : PySem.W.Frag} {m : Bool} {vs : List Nat} {C : Rho → M Bool} {Fe : Rho → M Sv} {σ : L2.St} {H : Hp} {Q : VK} (h : tX K E (lcV m vs Fi T C Fe) σ H Q) : tLc (tI K E Fi) (tPw K E0 vs T) (tT K E0 C) (tX K E0 Fe) vs σ H Q := by
  obtain ⟨W0, ρ0, μ0, r, h0, e0, q0⟩ := h
  rcases bind_some e0 with ⟨ds, μ1, e1, e2⟩ | ⟨c, μ1, e1, rfl⟩
  · refine ⟨W0, ρ0, μ0, _, h0, e1, fun W1 H1 g1 R1 J wk D hD => ?_⟩
    have q1 : KoV K E W1 H1 μ1 r Q := q0.later g1
    obtain ⟨csz, e2⟩ := iff_ok e2
    have hsz : ds.length < sizeLine := szOk_lt csz
    have s1 : Sls K W1 μ1.length (wipe σ vs) (wipeR ρ0 vs) := wipe_sl (h0.sl.grow g1) vs
    refine ⟨fun i n H => n = ds.length - i ∧ i ≤ ds.length ∧ ∃ W μ acc us, Rel K W H μ ∧ Grow W1 H1 μ1 W H μ ∧ Loose W μ D ∧ H D = some (.lst us) ∧ SvRs K W μ.length us acc ∧ acc.length ≤ i ∧
        M.bind (lcL T C Fe (ds.drop i) (wipeR ρ0 vs)) (fun ss => mkl m (acc ++ ss)) μ = some r,
      ⟨ds.length, rfl, Nat.zero_le _, W1, μ1, [], [], R1.lay hD, (Grow.refl _ _ _).out hD fun a ha => upd_ne ha, R1.fresh hD, upd_same, .nil, Nat.le_refl _, e2⟩, ?_⟩
    rintro i n H ⟨rfl, hi, W, μ, acc, us, R, gr, hT, hH, ra, hac, e⟩
    by_cases hlt : i < ds.length
    · have hd : ds[i]? = some ds[i] := List.getElem?_eq_getElem hlt
      rw [List.drop_eq_getElem_cons hlt] at e
      refine .inr ⟨wk.go i _ W H μ gr.same R hd, fun H' => ∃ W μ acc us, Rel K W H' μ ∧ Grow W1 H1 μ1 W H' μ ∧ Loose W μ D ∧ H' D = some (.lst us) ∧ SvRs K W μ.length us acc ∧ acc.length ≤ i + 1 ∧
        M.bind (lcL T C Fe (ds.drop (i + 1)) (wipeR ρ0 vs)) (fun ss => mkl m (acc ++ ss)) μ = some r, fun H' hN => ⟨ds.length - (i + 1), by omega, rfl, hlt, hN⟩, fun x H' hy => ?_⟩
      obtain ⟨W2, g2, R2, hx⟩ := wk.yld i _ W H μ x H' gr.same R hd hy
      obtain ⟨hH2, hT2⟩ := g2.frm D _ hH (fun _ z => by cases z) hT
      rcases bind_some e with ⟨ss, μ9, e3, e4⟩ | ⟨c, μ9, e3, rfl⟩
      · obtain ⟨ρ1, μ3, e5, e3⟩ := noEx_bind e3
        have gg2 := gr.trans g2
        refine ⟨W2, wipeR ρ0 vs, μ, .dat ds[i], _, ⟨R2, s1.grow gg2⟩, hx, e5, fun W3 H3 g3 R3 σ3 s3 w3 => ⟨w3.trans (wipe_wipe vs), ?_⟩⟩
        obtain ⟨hH3, hT3⟩ := g3.frm D _ hH2 (fun _ z => by cases z) hT2
        obtain ⟨k, μ4, e6, e3⟩ := noEx_bind e3
        refine ⟨W3, ρ1, μ3, _, ⟨R3, s3⟩, e6, fun W4 H4 g4 R4 => ?_⟩
        obtain ⟨hH4, hT4⟩ := g4.frm D _ hH3 (fun _ z => by cases z) hT3
        have gg4 := (gg2.trans g3).trans g4
        cases k with
        | false =>
          rw [if_neg Bool.false_ne_true] at e3 ⊢
          refine ⟨W4, μ4, acc, us, R4, gg4, hT4, hH4, ra.grow ((g2.trans g3).trans g4), Nat.le_succ_of_le hac, ?_⟩
          rw [bind_ok e3]
          exact e4
        | true =>
          rw [if_pos rfl] at e3 ⊢
          obtain ⟨s, μ5, e7, e3⟩ := noEx_bind e3
          refine ⟨W4, ρ1, μ4, _, ⟨R4, s3.grow g4⟩, e7, fun W5 H5 g5 R5 y ry => ?_⟩
          obtain ⟨hH5, hT5⟩ := g5.frm D _ hH4 (fun _ z => by cases z) hT4
          have gg5 := gg4.trans g5
          rcases bind_some e3 with ⟨r5, μ6, e8, e9⟩ | ⟨c, μ6, e8, e9⟩
          · cases e9
            refine ⟨us, hH5, ?_, ?_⟩
            · rw [ra.len]
              omega
            · refine ⟨W5, μ5, acc ++ [s], us ++ [y], R5.loose hH5 hT5, gg5.out hD fun a ha => upd_ne ha, hT5, upd_same, (ra.grow (((g2.trans g3).trans g4).trans g5)).append (.cons ry .nil), ?_, ?_⟩
              · rw [List.length_append]
                exact Nat.succ_le_succ hac
              · rw [bind_ok e8, List.append_assoc]
                exact e4
          · cases e9
      · exact absurd e3 lcL_noex
    · refine .inl ⟨wk.stop i W H μ gr.same R (by omega), ?_⟩
      rw [List.drop_eq_nil_of_le (by omega)] at e
      have e' : mkl m (acc ++ []) μ = some r := e
      rw [List.append_nil] at e'
      have R0 : Rel K W (hideA H D) μ := R.hide hH hT
      have g0 : Grow W1 H1 μ1 W (hideA H D) μ := gr.out hD fun a ha => hide_ne ha
      have z := mkl_ok R0 hide_self ra e' (q1.later g0)
      rw [hide_upd hH] at z
      exact z
  · exact ⟨W0, ρ0, μ0, _, h0, e1, q0⟩
/-- [elt for tg in iter if ..] -/
theorem x_lc (m : Bool) {elt : Expr} {ifs : List Expr} {scope : Scope} {own : List (Str × Nat)} {C : Rho → M Bool} {Fe : Rho → M Sv} (hc : X.calm = true) (hN : X.N.Nodup) (hi : PIX X E tg iter Fi) (ok : BlkOk X.N X.env.scope scope own)
    (hg : ∀ (s : Shared) (H : Hp) (D : Addr) (cl : List (Str × Addr)) (fp : List Addr), PGW (X.blk s H scope (compEnvC scope cl D X.env) fp) E0 (own.map (·.2)) tg T)
    (ht : ∀ (s : Shared) (H : Hp) (D : Addr) (cl : List (Str × Addr)) (fp : List Addr), PTsX (X.blk s H scope (compEnvC scope cl D X.env) fp) E0 ifs C)
    (he : ∀ (s : Shared) (H : Hp) (D : Addr) (cl : List (Str × Addr)) (fp : List Addr), PX (X.blk s H scope (compEnvC scope cl D X.env) fp) E0 elt Fe) (hs : ∀ x, foldedSetIterable iter X.env x = pure x := by intro _; rfl) :
    PX X E (.ListComp elt [⟨tg, iter, ifs, 0⟩] scope pos) (lcV m (own.map (·.2)) Fi T C Fe) := pe_weak (pe_lc hc hN hi ok hg ht he hs) fun _ _ _ h => lc_ent h
theorem s_setLc (i : Nat) (m : Bool) {y : Str} {py spos : Pos} {elt : Expr} {ifs : List Expr} {scope : Scope} {own : List (Str × Nat)} {C : Rho → M Bool} {Fe : Rho → M Sv} (hc : X.calm = true) (hN : X.N.Nodup) (hsw : swapsWith (.ListComp elt [⟨tg, iter, ifs, 0⟩] scope pos) (some (.Name y py)) spos.line X.env = pure true)
    (hi : PIX X E tg iter Fi) (ok : BlkOk X.N X.env.scope scope own)
    (hg : ∀ (s : Shared) (H : Hp) (D : Addr) (cl : List (Str × Addr)) (fp : List Addr), PGW (X.blk s H scope (compEnvC scope cl D X.env) fp) E0 (own.map (·.2)) tg T)
    (ht : ∀ (s : Shared) (H : Hp) (D : Addr) (cl : List (Str × Addr)) (fp : List Addr), PTsX (X.blk s H scope (compEnvC scope cl D X.env) fp) E0 ifs C)
    (he : ∀ (s : Shared) (H : Hp) (D : Addr) (cl : List (Str × Addr)) (fp : List Addr), PX (X.blk s H scope (compEnvC scope cl D X.env) fp) E0 elt Fe) (hy : X.N[i]? = some y := by rfl) (hyl : X.env.scope.names.lookup y = some .local := by rfl) (hs : ∀ x, foldedSetIterable iter X.env x = pure x := by intro _; rfl) :
    PSX X E (.Assign [.Name y py] (.ListComp elt [⟨tg, iter, ifs, 0⟩] scope pos) spos) (gSet i (lcV m (own.map (·.2)) Fi T C Fe)) :=
  ps_weak (ps_setLc hc hN hy hyl hsw hi ok hg ht he hs) fun D σ H ⟨W, ρ, μ, r, h, e, q⟩ => by
    refine lc_ent (tX_bind h e q fun v s W1 H1 μ1 g1 h1 rs e1 q1 => ?_)
    cases e1
    exact q1 _ _ (Grow.refl _ _ _) h1.rel _ (h1.sl.set i rs)
end
end Pf

namespace Pf
open PySem PySem.Spec PyProof.Rows L2

/-! ### defs, where no repr is under way -/
structure Gk (P : Program) (w : World) (K : PySem.W.Frag) (mg : Str → Option Value) (base : Heap) (CX : CXT) (k : Nat) (f : Addr) (fd : FuncData) (ps : List Str) (sp : Sp) : Prop where
  glen : ∀ vs H Q E, sp vs H Q E → vs.length = ps.length
  grun : ∀ (A : Around) (below : List Env) (s : Shared) (H : Hp) (ar : Args) (us : List Value) (vs : List V) (Q : VK) (E : XK), A.guards = some [] → Room k A → Env0 P w K mg base A below s H → BindsTo s fd ar (ps.zip us) → Vals vs us → sp vs H Q E →
    codeAny (model P w) A (.call (.ref f) ar) (CR CX below P w H s Q E) s
theorem Gk.of {P : Program} {w : World} {K : PySem.W.Frag} {mg : Str → Option Value} {base : Heap} {CX : CXT} {k : Nat} {f : Addr} {fd : FuncData} {ps : List Str} {sp : Sp} (F : FnOk P w K mg base CX k f fd ps sp) : Gk P w K mg base CX k f fd ps sp :=
  ⟨F.len, fun A o s H a us vs Q E _ hr e b r q => F.run A o s H a us vs Q E hr e b r q⟩
theorem Gk.up {P : Program} {w : World} {K : PySem.W.Frag} {mg : Str → Option Value} {base : Heap} {CX : CXT} {k j : Nat} {f : Addr} {fd : FuncData} {ps : List Str} {sp : Sp} (F : Gk P w K mg base CX j f fd ps sp) (h : j ≤ k) : Gk P w K mg base CX k f fd ps sp :=
  ⟨F.glen, fun A o s H a us vs Q E hg hr => F.grun A o s H a us vs Q E hg (hr.mono h)⟩
section
variable {X : Cx} {CX : CXT} {k : Nat} {f : Addr} {fd : FuncData} {ps : List Str} {sp : Sp} {dvs : List V} {ds : List Value} {E : XK} {x : Str} {p pos : Pos} {e : Expr} {es : List Expr}
theorem g_run {pins : List (Addr × Obj)} {σ : L2.St} {H : Hp} {s : Shared} {Q : VK} {us : List Value} {vs : List V} (F : Gk X.prog X.w X.K X.mg X.base CX k f fd ps sp) (hgd : X.A.guards = some []) (hr : Room k X.A) (hb : Binds X.K fd ps ds) (hd : Vals dvs ds) (hx : Passes CX X E)
    (I : Inv X pins σ H s) (r : Vals vs us) (h : sp (vs ++ dvs) H Q E) : wpAny (model X.prog X.w) X.A (call (.ref f) us) (EP X pins σ Q) X.xe s := by
  have rr : Vals (vs ++ dvs) (us ++ ds) := Vals.append r hd
  have ln : (us ++ ds).length = ps.length := (Vals.length rr).symm.trans (F.glen _ _ _ _ h)
  have gr := F.grun X.A X.stack s H ⟨us, []⟩ (us ++ ds) (vs ++ dvs) Q E hgd hr (Inv.env0 I) (hb s us I.kIn ln) rr h
  refine wpAny_call (codeAny_mono gr fun res s1 hc => ?_)
  match res, hc with
  | .error ex, hc => exact hx pins σ H s ex s1 I hc
  | .ok (.ret u), hc => exact Inv.after I hc
/-! ### the promise of a pure reading -/
def spM (K : PySem.W.Frag) (n : Nat) (Fm : List Sv → M Sv) : Sp := fun vs H Q E => vs.length = n ∧ ∃ W μ ss r, Rel K W H μ ∧ SvRs K W μ.length vs ss ∧ Fm ss μ = some r ∧ KoV K E W H μ r Q
def ownV (Fm : List Sv → M Sv) (dd : List PyData) (Fs : Rho → M (List Sv)) (ρ : Rho) : M Sv := (Fs ρ).bind fun ss => Fm (ss ++ dd.map Sv.dat)
theorem x_call {n : Nat} {Fm : List Sv → M Sv} {dd : List PyData} {Fs : Rho → M (List Sv)} (F : Gk X.prog X.w X.K X.mg X.base CX k f fd ps (spM X.K n Fm)) (hgd : X.A.guards = some []) (hr : Room k X.A) (hm : X.mg x = some (.ref f)) (hk : PySem.W.keepIn X.K (.ref f) = true) (hb : Binds X.K fd ps ds) (hd : Vals dvs ds)
    (hdd : ∀ S, Dqs X.K S dvs dd) (hx : Passes CX X E) (ha : PAX X E (e :: es) Fs) (hg : Gl X x := by rfl)
    (hdb : (x == ("__debug__" : Str)) = false := by decide) (he : starEach (e :: es) X.env = (false, eval e X.env) :: starEach es X.env := by rfl) (hpl : (backTo pos (starEach es X.env)).any (·.1) = false := by rfl) :
    PX X E (.Call (.Name x p) (e :: es) [] pos) (fun ρ => (Fs ρ).bind fun ss => if decide (ss.length + dd.length = n) = true then Fm (ss ++ dd.map Sv.dat) else M.fail) := by
  refine ⟨fun pins s σ H Q I ⟨W, ρ, μ, r, h, e, q⟩ => ?_⟩
  refine wpAny_Call_Name_kw (ld_glob I hg hm ?_ hdb)
  refine PySem.W.callWith_K (h₀ := X.base) I.ok.mod.kin hk ?_ he hpl
  have want : tAr X.K E Fs σ H fun vs H1 => spM X.K n Fm (vs ++ dvs) H1 Q E := tAr_bind h e q fun vs ss W1 H1 μ1 g1 h1 rs e1 q1 => by
    obtain ⟨c, e1⟩ := iff_ok e1
    have rd : SvRs X.K W1 μ1.length dvs (dd.map Sv.dat) := rel_dats (hdd _)
    refine ⟨?_, W1, μ1, _, r, h1.rel, rs.append rd, e1, q1⟩
    have l1 := rs.len
    have l2 := rd.len
    rw [List.length_map] at l2
    have c' := of_decide_eq_true c
    rw [List.length_append]
    omega
  exact thn (ha.run pos pins s σ H _ I want) fun us s1 hz => by
    obtain ⟨vs, H1, J, rv, z⟩ := hz
    exact ⟨J.kIn, g_run F hgd hr hb hd hx J rv z⟩
end

/-! ### a def by its body -/
/-- what a body leaves behind the objects that the caller knows -/
def Wf (μ : Mu) : Prop := ∀ (i : Nat) (xs : List Sv), μ[i]? = some (.lst xs) → ∀ t, Sv.ref t ∈ xs → t < μ.length
def fits (n : Nat) : Sv → Prop
  | .ref t => t < n
  | _ => True
def Agree (n : Nat) (r : Res Sv) (r' : Res Out) : Prop := match r, r' with
  | .ok s μ1, .ok (.rt s') μ2 => s = s' ∧ (∃ g, μ2 = μ1 ++ g) ∧ Wf μ1 ∧ n ≤ μ1.length ∧ fits μ1.length s
  | .ok s μ1, .ok (.nx _) μ2 => s = .dat .none ∧ (∃ g, μ2 = μ1 ++ g) ∧ Wf μ1 ∧ n ≤ μ1.length
  | .ex c μ1, .ex c' μ2 => c = c' ∧ (∃ g, μ2 = μ1 ++ g) ∧ Wf μ1 ∧ n ≤ μ1.length ∧ ∀ f s, c.fld = some (f, s) → fits μ1.length s
  | _, _ => False
section
variable {K : PySem.W.Frag} {W W' : Wd} {H H' : Hp} {μ μ1 g : Mu}
theorem rels_mem {n : Nat} {t : Nat} : ∀ {vs : List V} {xs : List Sv}, SvRs K W n vs xs → Sv.ref t ∈ xs → t < n
  | _, _, .nil, h => absurd h List.not_mem_nil
  | _, x :: _, .cons a r, h => by
    rcases List.mem_cons.mp h with z | z
    · rw [← z] at a
      exact a.1
    · exact rels_mem r z
theorem Rel.wf (R : Rel K W H μ) : Wf μ := fun i xs e t ht => by
  obtain ⟨vs, _, r⟩ := R.obj i _ e
  exact rels_mem r ht
theorem sv_cut {n m : Nat} : ∀ {v : V} {s : Sv}, SvR K W n v s → fits m s → SvR K W m v s
  | _, .dat _, h, _ => h
  | _, .ref _, h, z => ⟨z, h.2⟩
  | _, .scr _, h, _ => h
theorem svs_cut {n m : Nat} : ∀ {vs : List V} {xs : List Sv}, SvRs K W n vs xs → (∀ x ∈ xs, fits m x) → SvRs K W m vs xs
  | _, _, .nil, _ => .nil
  | _, _, .cons a r, h => .cons (sv_cut a (h _ List.mem_cons_self)) (svs_cut r fun x hx => h x (List.mem_cons_of_mem _ hx))
theorem pre_get {i : Nat} {o : MObj} (e : μ1[i]? = some o) : (μ1 ++ g)[i]? = some o := by
  rw [List.getElem?_append_left (List.getElem?_eq_some_iff.mp e).1]
  exact e
theorem Rel.cut (R : Rel K W H (μ1 ++ g)) (wf : Wf μ1) : Rel K W H μ1 where
  sub := R.sub
  obj := fun i o e => by
    cases o with
    | gone => trivial
    | lst xs =>
      obtain ⟨vs, h, r⟩ := R.obj i _ (pre_get e)
      exact ⟨vs, h, svs_cut r fun x hx => by
        cases x with
        | ref t => exact wf i xs e t hx
        | _ => trivial⟩
  own := fun i o e ha => R.own i o (pre_get e) ha
  inj := fun i j o o' e e' => R.inj i j o o' (pre_get e) (pre_get e')
  tab := R.tab
  sm := R.sm
  nt := R.nt
theorem Grow.cut (gr : Grow W H μ W' H' (μ1 ++ g)) (hl : μ.length ≤ μ1.length) : Grow W H μ W' H' μ1 :=
  ⟨⟨hl, gr.gr.same, gr.gr.at_⟩, fun a o h n l => let ⟨h1, l1⟩ := gr.frm a o h n l; ⟨h1, l1.1, fun t ob e ha => l1.2 t ob (pre_get e) ha⟩⟩
/-- what is wanted of the promise's end is wanted of the body's -/
theorem agree_ko {E : XK} {r : Res Sv} {r' : Res Out} {Q : VK} (a : Agree μ.length r r') (q : KoV K E W H μ r Q) : Ko K E W H μ r' (OutOk K { nx := fun _ H' => Q .non H', rt := Q }) := by
  cases r with
  | ok s μ1 =>
    cases r' with
    | ex c μ2 => exact a.elim
    | ok o μ2 =>
      cases o with
      | bk ρ => exact a.elim
      | ct ρ => exact a.elim
      | nx ρ =>
        obtain ⟨rfl, ⟨g, rfl⟩, wf, hl⟩ := a
        exact fun W' H' gr R σ _ => q W' H' (gr.cut hl) (R.cut wf) _ .non
      | rt s' =>
        obtain ⟨rfl, ⟨g, rfl⟩, wf, hl, hs⟩ := a
        exact fun W' H' gr R v rv => q W' H' (gr.cut hl) (R.cut wf) v (sv_cut rv hs)
  | ex c μ1 =>
    cases r' with
    | ok o μ2 => exact a.elim
    | ex c' μ2 =>
      obtain ⟨rfl, ⟨g, rfl⟩, wf, hl, hs⟩ := a
      refine fun W' H' cls d gr R x => q W' H' cls d (gr.cut hl) (R.cut wf) ⟨x.1, ?_⟩
      have x2 := x.2
      cases hf : c.fld with
      | none =>
        rw [hf] at x2
        exact x2
      | some fs =>
        obtain ⟨fn, s⟩ := fs
        rw [hf] at x2
        obtain ⟨dd, v, h1, h2, h3⟩ := x2
        exact ⟨dd, v, h1, h2, sv_cut h3 (hs fn s hf)⟩
end
def ini (N : Nat) (ss : List Sv) : Rho := ss.map some ++ List.replicate (N - ss.length) none
theorem ini_sl {K : PySem.W.Frag} {W : Wd} {n : Nat} {N : List Str} {vs : List V} {ss : List Sv} (h : SvRs K W n vs ss) : Sls K W n (L2.start N vs) (ini N.length ss) := by
  have hl := h.len
  refine ⟨fun i x e => ?_, ?_⟩
  · unfold ini at e
    unfold L2.start
    by_cases hi : i < ss.length
    · rw [List.getElem?_append_left (by rw [List.length_map]; exact hi), List.getElem?_map] at e
      cases q : ss[i]? with
      | none =>
        rw [q] at e
        cases e
      | some y =>
        rw [q] at e
        cases e
        obtain ⟨u, h1, h2⟩ := h.get q
        exact ⟨u, by rw [List.getElem?_append_left (by rw [List.length_map, hl]; exact hi), List.getElem?_map, h1]; rfl, h2⟩
    · rw [List.getElem?_append_right (by rw [List.length_map]; omega), List.getElem?_replicate] at e
      split at e <;> cases e
  · unfold ini L2.start
    rw [List.length_append, List.length_append, List.length_map, List.length_map, List.length_replicate, List.length_replicate, hl]
section
variable {P : Program} {w : World} {K : PySem.W.Frag} {mg : Str → Option Value} {base : Heap} {k : Nat} {f : Addr} {fd : FuncData} {x qual : Str} {st : Stmt} {N ps : List Str}
/-- the context in which a body stands -/
abbrev bx (P : Program) (w : World) (K : PySem.W.Frag) (mg : Str → Option Value) (base : Heap) (N : List Str) (qual : Str) (st : Stmt) (f : Addr) (cdv : Value) (A : Around) (below : List Env) (s : Shared) (H : Hp) (E : XK) : Cx :=
  cxOf (L2.CX P w) P w K mg base N qual (defScope st) f cdv A below s H E
theorem bx_pass {cdv : Value} {A : Around} {below : List Env} {s : Shared} {H : Hp} {E : XK} : Passes (L2.CX P w) (bx P w K mg base N qual st f cdv A below s H E) E := passes_call (takes_of rfl rfl rfl rfl) fun _ _ _ _ h => h
theorem bx_own {cdv : Value} {A : Around} {below : List Env} {s : Shared} {H : Hp} {E : XK} : PassesOwn (model P w) (bx P w K mg base N qual st f cdv A below s H E).A (bx P w K mg base N qual st f cdv A below s H E).env (bx P w K mg base N qual st f cdv A below s H E).xe := passes_of rfl
set_option maxHeartbeats 400000 in
theorem gk_run {sp : Sp} (F : Fun K x qual st f fd) (S : FnScope N ps (defScope st)) (len : ∀ vs H Q E, sp vs H Q E → vs.length = ps.length)
    (body : ∀ (cdv : Value) (_ : fd.code = cdv) (A : Around) (below : List Env) (s : Shared) (H : Hp) (vs : List V) (Q : VK) (E : XK), A.guards = some [] → Room k (bx P w K mg base N qual st f cdv A below s H E).A → sp vs H Q E →
      ∃ t, PSs (bx P w K mg base N qual st f cdv A below s H E) (defBody st) t ∧ t { nx := fun _ H' => Q .non H', rt := Q } (L2.start N vs) H) : Gk P w K mg base (L2.CX P w) (k + 1) f fd ps sp := by
  obtain ⟨oc, od, kV, doc, pm, an, cdv, ct, osl, rfl, lk, hcd⟩ := F.ex
  refine ⟨len, fun A below s H ar us vs Q E hgd hr e0 hb rv hsp => ?_⟩
  have ln := len _ _ _ _ hsp
  have inK : K.In s.heap := e0.mod.kin.keeps fun b o e => And.left (e0.bs b o e)
  have roomy : s.heap.NoLimit := e0.mod.nolimit.keeps fun b o e => And.left (e0.bs b o e)
  have kinds : ∀ y ∈ ps.zip us, (defScope st).names.lookup y.1 = some .local ∨ ((defScope st).names.lookup y.1 = some .cell ∧ ((cellsFrom (s.heap.objs.size + 1) (defScope st).names []).lookup y.1).isSome = true) := by
    intro ⟨n, v⟩ hy
    rcases S.par n (List.of_mem_zip hy).1 with z | z
    · exact .inl z
    · exact .inr ⟨z, PySem.W.cellsFrom_some _ _ _ (.inl z)⟩
  refine codeAny_call_function (Room.depth hr) (inK _ _ lk) rfl S.co S.gen rfl (PySem.W.codeRec_of inK hcd) (hb _ _ _ _ ?_)
  refine wpAny_newFunctionEnv_cells S.kind kinds ?_
  intro env he s1 made
  subst he
  refine ⟨roomy.keeps made.toInCall.keep, codeAny_func ?_⟩
  obtain ⟨t, ht, hq⟩ := body cdv rfl A below s H vs Q E hgd (Room.deeper hr _) hsp
  have I0 : Inv (bx P w K mg base N qual st f cdv A below s H E) [] (L2.start N vs) H s1 := inv_start S hr.hd e0 ln rv made
  refine wpAny_mono (ht.run [] s1 (L2.start N vs) H _ I0 hq) ?_ fun _ _ z => z
  intro fl s2 hs
  have done : ∀ {σ' : L2.St} {H' : Hp} {v : V} {u : Value}, Inv (bx P w K mg base N qual st f cdv A below s H E) [] σ' H' s2 → RelV v u → Q v H' → CE below P w H s Q u s2 := fun J rel q => ⟨_, _, J.os, J.bare, J.base, J.hok, rel, q⟩
  cases fl with
  | brk =>
    obtain ⟨_, _, _, z⟩ := hs
    exact z.elim
  | cont =>
    obtain ⟨_, _, _, z⟩ := hs
    exact z.elim
  | ret u =>
    obtain ⟨v, σ', H', J, rel, q⟩ := hs
    exact done J rel q
  | next =>
    obtain ⟨σ', H', J, q⟩ := hs
    exact done (v := V.non) (u := Value.none) J rfl q
/-- THE RULE: a def by the pure reading of its body -/
theorem gk_of {n : Nat} {Fm : List Sv → M Sv} (F : Fun K x qual st f fd) (S : FnScope N ps (defScope st)) (hn : ps.length = n)
    (G : Rho → M Out) (body : ∀ (cdv : Value) (A : Around) (below : List Env) (s : Shared) (H : Hp) (E : XK), A.guards = some [] → Room k (bx P w K mg base N qual st f cdv A below s H E).A → PSSX (bx P w K mg base N qual st f cdv A below s H E) E (defBody st) G)
    (same : ∀ (ss : List Sv) (μ : Mu) (r : Res Sv), ss.length = n → Wf μ → Fm ss μ = some r → ∃ r', G (ini N.length ss) μ = some r' ∧ Agree μ.length r r') : Gk P w K mg base (L2.CX P w) (k + 1) f fd ps (spM K n Fm) := by
  refine gk_run F S (fun vs H Q E h => h.1.trans hn.symm) fun cdv _ A below s H vs Q E hgd hr ⟨hl, W, μ, ss, r, R, rs, e, q⟩ => ⟨_, body cdv A below s H E hgd hr, ?_⟩
  obtain ⟨r', e', a⟩ := same ss μ r (by rw [← hl, rs.len]) R.wf e
  exact ⟨W, ini N.length ss, μ, r', ⟨R, ini_sl rs⟩, e', agree_ko a q⟩
end
end Pf

namespace Pf
open PySem PySem.Spec PyProof.Rows L2

/-! ### the law's own call, at its one place: no repr is under way there -/
section
variable {P : Program} {w : World} {K : PySem.W.Frag} {mg mb : Str → Option Value} {k : Nat} {fa a : Addr} {fd : FuncData} {x : Str} {sp : Sp} {s₁ : Shared} {vs : List Value} {ns : List Int}
/-- the heap at the law's entry: what is held stays as it is -/
abbrev OnlyF (H : Hp) : Prop := ∀ b, H b = none ∨ ∃ ob u, H b = some (.frz ob u)
/-- what the end of the whole law says -/
abbrev LawEnd (s₁ : Shared) (r : Result) (s' : Shared) : Prop := r = .ok (.ret (.bool true)) ∧ OldK s₁.heap s'.heap ∧ s'.os = s₁.os ∧ AllBare s'.gens
theorem law_from (KX : K.In s₁.heap) (hns : s₁.heap.Ns mainGlobals mg) (hb : s₁.heap.Ns builtinsNs mb) (hbb : ∀ x : Str, x ≠ "__name__" → mb x = bootBuiltins x) (hlim : s₁.heap.NoLimit) (hg : s₁.gens = #[])
    {own : Obj} (ha : s₁.heap.get? a = some own) (hseq : ∀ es ep, own.data ≠ .dict es ep) (hr : Room k callerA)
    (F : ∀ base : Heap, K.In base → base.Ns mainGlobals mg → Gk P w K mg base (L2.CX P w) k fa fd [x] sp) (hbind : ∀ (s : Shared) (u : Value), BindsTo s fd ⟨[u], []⟩ [(x, u)])
    (H : Hp) (only : OnlyF H) (hok : HOk P w H s₁.heap) (one : ∀ b, b ≠ sysModules → H b ≠ none → b = a) (apart : H a ≠ none → K.lookup a = none) (aps : H sysModules ≠ none → K.lookup sysModules = none)
    (hsp : sp [.ref a] H (fun v _ => v = .bl true) fun _ _ _ => False) : codeAny (model P w) callerA (.call (.ref fa) ⟨[.ref a], []⟩) (LawEnd s₁) s₁ := by
  have noDict : ∀ {b : Addr} {o : Obj} {es : Array DictEntry} {ep : Nat}, b ≠ sysModules → s₁.heap.get? b = some o → o.data = .dict es ep → H b = none := by
    intro b o es ep nb e d
    cases q : H b with
    | none => rfl
    | some u =>
      have eb : b = a := one b nb fun z => by
        rw [q] at z
        cases z
      subst eb
      rw [ha] at e
      cases e
      exact absurd d (hseq es ep)
  have sees : ∀ {b : Addr} {m : Str → Option Value}, b ≠ sysModules → s₁.heap.Ns b m → (hidT s₁.heap H).Ns b m := by
    intro b m nb z
    obtain ⟨o, es, ep, e, d, r⟩ := z
    exact ⟨o, es, ep, hidT_get e (noDict nb e d), d, r⟩
  have inB : K.In (hidT s₁.heap H) := by
    intro b o e
    refine hidT_get (KX b o e) ?_
    cases q : H b with
    | none => rfl
    | some u =>
      have nn : H b ≠ none := fun z => by
        rw [q] at z
        cases z
      by_cases hbs : b = sysModules
      · rw [hbs] at e nn
        rw [aps nn] at e
        cases e
      · have eb : b = a := one b hbs nn
        rw [eb] at e nn
        rw [apart nn] at e
        cases e
  have lim : (hidT s₁.heap H).NoLimit := by
    obtain ⟨mc, h1, h2⟩ := hlim
    exact ⟨mc, sees (by decide) h1, h2⟩
  have md : Mod K mg (hidT s₁.heap H) := ⟨inB, sees (by decide) hns, ⟨mb, sees (by decide) hb, hbb⟩, lim⟩
  have gone : ∀ b ∈ frs ([] : List Env), H b = none := fun b z => absurd (show b ∈ ([] : List Addr) from z) List.not_mem_nil
  have e0 : Env0 P w K mg (hidT s₁.heap H) callerA [] s₁ H := ⟨rfl, md, fun _ _ e => of_hidT e, Nat.le_of_eq (hidT_size _ _), trivial, gone, hok, .of_eq hg⟩
  have go := (F (hidT s₁.heap H) inB (sees (by decide) hns)).grun callerA [] s₁ H ⟨[.ref a], []⟩ [.ref a] [.ref a] _ _ rfl hr e0 (hbind s₁ (.ref a)) (.cons rfl .nil) hsp
  refine codeAny_mono go ?_
  intro r s' h
  cases r with
  | error e =>
    obtain ⟨_, _, _, _, _, _, _, _, _, _, _, _, z⟩ := h
    exact z.elim
  | ok fl =>
    cases fl with
    | next => exact False.elim h
    | brk => exact False.elim h
    | cont => exact False.elim h
    | ret u =>
      obtain ⟨v, H', os, bare, un, hok2, rel, q⟩ := h
      have ev : v = .bl true := q
      subst ev
      have eu : u = Value.bool true := rel
      subst eu
      refine ⟨rfl, OldK.of_keep ?_, os, bare⟩
      intro b o e
      cases q : H b with
      | none => exact un.keep b o e q (fun z => absurd (show b ∈ ([] : List Addr) from z) List.not_mem_nil) List.not_mem_nil
      | some u =>
        rcases only b with z | ⟨ob, xs, z⟩
        · rw [q] at z
          cases z
        · obtain ⟨e1, _⟩ := hok b _ z
          obtain ⟨e2, _⟩ := hok2 b _ (un.frzs b ob _ z)
          rw [e] at e1
          cases e1
          exact e2
/-- what is held at the law's entry beside the script: the modules' dict, as it is -/
noncomputable def sysH (K : PySem.W.Frag) (om : Obj) : Hp := fun b => if b = sysModules ∧ K.lookup sysModules = none then some (.frz om (.own 0)) else none
theorem sysH_ne {om : Obj} {b : Addr} (h : b ≠ sysModules) : sysH K om b = none := if_neg fun z => h z.1
theorem sysH_some {om : Obj} {b : Addr} {u : HO} (h : sysH K om b = some u) : b = sysModules ∧ u = .frz om (.own 0) ∧ K.lookup sysModules = none := by
  unfold sysH at h
  split at h
  · next z => exact ⟨z.1, (Option.some.inj h).symm, z.2⟩
  · cases h
theorem sysH_at {om : Obj} (h : K.lookup sysModules = none) : sysH K om sysModules = some (.frz om (.own 0)) := if_pos ⟨rfl, h⟩
theorem sys_ok {H : Hp} {h : Heap} {om : Obj} {es : Array DictEntry} {ep : Nat} (KX : K.In h) (e : h.get? sysModules = some om) (d : om.data = .dict es ep) (hH : H sysModules = sysH K om sysModules) : SmOk K H := by
  cases q : K.lookup sysModules with
  | some o =>
    have := KX _ _ q
    rw [e] at this
    cases this
    exact .inl ⟨_, _, _, q, d⟩
  | none => exact .inr ⟨om, es, ep, by rw [hH, sysH_at q], d⟩
theorem law_by (KX : K.In s₁.heap) (hns : s₁.heap.Ns mainGlobals mg) (hb : s₁.heap.Ns builtinsNs mb) (hbb : ∀ x : Str, x ≠ "__name__" → mb x = bootBuiltins x) (hlim : s₁.heap.NoLimit) (hg : s₁.gens = #[])
    (ha : s₁.heap.get? a = some { cls := .type "list", data := .seq vs.toArray }) (hi : IntsAre vs ns) (hl : ns.length ≤ sizeLine) (hr : Room k callerA) {mm : Str → Option Value} (hm : s₁.heap.Ns sysModules mm)
    (F : ∀ base : Heap, K.In base → base.Ns mainGlobals mg → Gk P w K mg base (L2.CX P w) k fa fd [x] sp) (hbind : ∀ (s : Shared) (u : Value), BindsTo s fd ⟨[u], []⟩ [(x, u)])
    (hsp : ∀ H : Hp, OnlyF H → SmOk K H → SqL K H a (ns.map V.int) → sp [.ref a] H (fun v _ => v = .bl true) fun _ _ _ => False) : codeAny (model P w) callerA (.call (.ref fa) ⟨[.ref a], []⟩) (LawEnd s₁) s₁ := by
  have rv := vals_ints hi
  have nd : ∀ es ep, ({ cls := .type "list", data := .seq vs.toArray } : Obj).data ≠ .dict es ep := fun _ _ z => nomatch z
  obtain ⟨om, es, ep, em, dm, _⟩ := hm
  have nas : a ≠ sysModules := fun z => by
    rw [z, em] at ha
    cases ha
    cases dm
  have onl0 : OnlyF (sysH K om) := fun b => by
    cases q : sysH K om b with
    | none => exact .inl rfl
    | some u => exact .inr ⟨_, _, by rw [(sysH_some q).2.1]⟩
  have ok0 : HOk P w (sysH K om) s₁.heap := fun b u z => by
    obtain ⟨h1, h2, _⟩ := sysH_some z
    subst h1 h2
    exact ⟨em, _, em⟩
  have aps0 : sysH K om sysModules ≠ none → K.lookup sysModules = none := fun z => by
    cases q : sysH K om sysModules with
    | none => exact absurd q z
    | some u => exact (sysH_some q).2.2
  cases hk : K.lookup a with
  | some o =>
    have e := KX a o hk
    rw [ha] at e
    cases e
    have sq : SqL K (sysH K om) a (ns.map V.int) := .inr ⟨_, vs.toArray, _, hk, rfl, rfl, rfl, by rw [List.size_toArray, hi.length]; exact hl, by simpa using rv⟩
    exact law_from KX hns hb hbb hlim hg ha nd hr F hbind (sysH K om) onl0 ok0 (fun b nb z => absurd (sysH_ne nb) z) (fun z => absurd (sysH_ne nas) z) aps0 (hsp _ onl0 (sys_ok KX em dm rfl) sq)
  | none =>
    let fz : HO := .frz { cls := .type "list", data := .seq vs.toArray } (.lst (ns.map V.int))
    let H1 : Hp := upd (sysH K om) a fz
    have at1 : H1 a = some fz := upd_same
    have off : ∀ b, b ≠ a → H1 b = sysH K om b := fun b hb => upd_ne hb
    have onl : OnlyF H1 := fun b => by
      by_cases eb : b = a
      · exact .inr ⟨_, _, by rw [eb]; exact at1⟩
      · rw [off b eb]
        exact onl0 b
    refine law_from KX hns hb hbb hlim hg ha nd hr F hbind H1 onl (fun b u z => ?_) (fun b nb z => ?_) (fun _ => hk) (fun z => aps0 (by rw [off _ nas.symm] at z; exact z)) (hsp H1 onl (sys_ok KX em dm (off _ nas.symm)) (.inl (.inr ⟨_, at1⟩)))
    · by_cases eb : b = a
      · subst eb
        rw [at1] at z
        cases z
        exact ⟨ha, by rw [List.length_map]; exact hl, vs, _, rv, ha⟩
      · rw [off b eb] at z
        exact ok0 b u z |> fun h => by
          obtain ⟨h1, h2, _⟩ := sysH_some z
          subst h1 h2
          exact ⟨em, _, em⟩
    · by_cases eb : b = a
      · exact eb
      · exact absurd ((off b eb).trans (sysH_ne nb)) z
end
/-- the goal that k_head leaves -/
theorem law_walk {l : PySem.W.OpenLaw} {n k : Nat} {q : Program} {loose : List Str} {XP : (Str → Option Value) → Heap → Prop} {YP : World → Heap → Prop} {d : DefRec} {K : Params → PySem.W.Frag} {sp : PySem.W.Frag → Sp} {x : Str}
    (hn : l.most = some n) (hn2 : n ≤ sizeLine) (hdf : d.params.defaults = []) (hr : Room k callerA) (hY : ∀ (w : World) (h : Heap), YP w h → (K w.params).In h)
    (F : ∀ (w : World) (mg : Str → Option Value) (fa : Addr) (h : Heap), (K w.params).In h → h.Ns mainGlobals mg → mg d.name = some (.ref fa) →
      ∃ fd : FuncData, (∀ (s : Shared) (u : Value), BindsTo s fd ⟨[u], []⟩ [(x, u)]) ∧ ∀ base : Heap, (K w.params).In base → base.Ns mainGlobals mg → Gk l.prog w (K w.params) mg base (L2.CX l.prog w) k fa fd [x] (sp (K w.params)))
    (hsp : ∀ (K : PySem.W.Frag) (H : Hp) (a : Addr) (ns : List Int), ns.length ≤ n → OnlyF H → SmOk K H → SqL K H a (ns.map V.int) → sp K [.ref a] H (fun v _ => v = .bl true) fun _ _ _ => False) (him : importsNone q = true := by decide +kernel) :
    PySem.W.WalkO q loose XP YP l.row.toRowW d [] (fun f vs => PySem.call f vs) := by
  refine Att.attach_call hn hdf ?_
  intro w s₀ s₁ mg mb fa o pm cd doc a vs ns G Y ho hd hcd hmg hobj hints hlen hg
  have KX := hY w _ Y
  obtain ⟨fd, hb, hF⟩ := F w mg fa _ KX G.T.g hmg
  exact law_by KX G.T.g G.T.b G.T.builtins G.T.nolimit hg hobj hints (Nat.le_trans hlen hn2) hr (G.T.seer him).mods.choose_spec.1 hF hb fun H h1 h2 h3 => hsp _ H a ns hlen h1 h2 h3
/-- the law's promise: a pure reading upon the script gives True -/
def spLaw (Fm : List Sv → M Sv) (most : Nat) (K : PySem.W.Frag) : Sp := spM K 1 Fm
theorem spLaw_of {Fm : List Sv → M Sv} {most : Nat} (h : ∀ ns : List Int, ns.length ≤ most → ∃ μ, Fm [.scr ns] [] = some (.ok (.dat (.bool true)) μ)) (hT : lamT = [] := by rfl) (K : PySem.W.Frag) (H : Hp) (a : Addr) (ns : List Int) (hl : ns.length ≤ most) (hO : OnlyF H) (hsm : SmOk K H) (hs : SqL K H a (ns.map V.int)) :
    spLaw Fm most K [.ref a] H (fun v _ => v = .bl true) fun _ _ _ => False := by
  obtain ⟨μ, e⟩ := h ns hl
  have R : Rel K ⟨fun _ => 0, H⟩ H [] := ⟨Same.refl _, fun i o e => by simp at e, fun i o e => by simp at e, fun i j o o' e => by simp at e, fun p hp => (by rw [hT] at hp; cases hp), hsm, fun b ps z => (by
    have z' : H b = some (.tbl ps) := z
    rcases hO b with q | ⟨_, _, q⟩
    · rw [q] at z'; cases z'
    · rw [q] at z'; cases z')⟩
  refine ⟨rfl, ⟨fun _ => 0, H⟩, [], [.scr ns], _, R, .cons ⟨a, rfl, hs⟩ .nil, e, fun W' H' g R' v rv => ?_⟩
  cases rv
  rfl
end Pf

namespace Pf
open PySem PySem.Spec PyProof.Rows L2
section
variable {X : Cx} {E : XK} {e a b c iter tg : Expr} {es : List Expr} {Fa Fb Fc : Rho → M Sv} {Fs : Rho → M (List Sv)} {pos p tpos : Pos}
def negV (Fa : Rho → M Sv) (ρ : Rho) : M Sv := (Fa ρ).bind fun s => (asI s).bind fun i => M.ret (.dat (.int (-i)))
theorem x_ng (ha : PX X E a Fa) : PX X E (.UnaryOp .USub a pos) (negV Fa) := x_neg ha
/-- a call of a def of one's own, all arguments written -/
def callF (Fm : List Sv → M Sv) (n : Nat) (Fs : Rho → M (List Sv)) (ρ : Rho) : M Sv := (Fs ρ).bind fun ss => if decide (ss.length = n) = true then Fm ss else M.fail
theorem x_call1 {CX : CXT} {k j : Nat} {f : Addr} {fd : FuncData} {ps : List Str} {x : Str} {n : Nat} {Fm : List Sv → M Sv} (F : Gk X.prog X.w X.K X.mg X.base CX j f fd ps (spM X.K n Fm)) (hgd : X.A.guards = some []) (hr : Room k X.A) (hm : X.mg x = some (.ref f)) (hk : PySem.W.keepIn X.K (.ref f) = true) (hb : Binds X.K fd ps [])
    (hx : Passes CX X E) (ha : PAX X E (e :: es) Fs) (hg : Gl X x := by rfl) (hj : j ≤ k := by decide) (hdb : (x == ("__debug__" : Str)) = false := by decide) (he : starEach (e :: es) X.env = (false, eval e X.env) :: starEach es X.env := by rfl) (hpl : (backTo pos (starEach es X.env)).any (·.1) = false := by rfl) :
    PX X E (.Call (.Name x p) (e :: es) [] pos) (callF Fm n Fs) := by
  have z := x_call (p := p) (pos := pos) (dd := []) F hgd (hr.mono hj) hm hk hb .nil (fun _ => .nil) hx ha hg hdb he hpl
  have eq : (fun ρ => (Fs ρ).bind fun ss => if decide (ss.length + ([] : List PyData).length = n) = true then Fm (ss ++ ([] : List PyData).map Sv.dat) else M.fail) = callF Fm n Fs := by
    funext ρ
    show M.bind (Fs ρ) _ = M.bind (Fs ρ) _
    congr 1
    funext ss
    rw [List.map_nil, List.append_nil]
    rfl
  rw [eq] at z
  exact z
/-! ### zip of two lists or two tuples of data -/
def zipD (ds es : List PyData) : List PyData := List.zipWith (fun d e => .tuple [d, e]) ds es
theorem zip_at {ds es : List PyData} {i : Nat} {x : PyData} (h : (zipD ds es)[i]? = some x) : ∃ d e, ds[i]? = some d ∧ es[i]? = some e ∧ x = .tuple [d, e] := by
  unfold zipD at h
  rw [List.getElem?_zipWith] at h
  cases q : ds[i]? with
  | none =>
    rw [q] at h
    simp at h
  | some d =>
    cases q2 : es[i]? with
    | none =>
      rw [q, q2] at h
      simp at h
    | some e =>
      rw [q, q2] at h
      exact ⟨d, e, rfl, rfl, (Option.some.inj h).symm⟩
theorem pair_new {K : PySem.W.Frag} {W1 : Wd} {H : Hp} {μ : Mu} {T : Addr} {x y : V} {d e : PyData} (R : Rel K W1 H μ) (nT : H T = none) (h1 : Dq K W1.S x d) (h2 : Dq K W1.S y e) :
    ∃ W2, Grow W1 H μ W2 (upd H T (.tup [x, y])) μ ∧ Rel K W2 (upd H T (.tup [x, y])) μ ∧ Dq K W2.S (.ref T) (.tuple [d, e]) := by
  have g : Grow W1 H μ (W1.put T (.tup [x, y])) (upd H T (.tup [x, y])) μ := grow_share R nT
  exact ⟨_, g, R.share nT, .tup (SqT.of upd_same) (.cons (Dq.mono g.same h1) (.cons (Dq.mono g.same h2) .nil))⟩
theorem zip_len {ds es : List PyData} {i : Nat} (h : (zipD ds es).length ≤ i) : ds.length ≤ i ∨ es.length ≤ i := by
  unfold zipD at h
  rw [List.length_zipWith] at h
  omega
theorem wk_zip {K : PySem.W.Frag} {W : Wd} {a b : Addr} {vs us : List V} {ds es : List PyData} (h : W.S a = some (.lst vs)) (r : Dqs K W.S vs ds) (h2 : W.S b = some (.lst us)) (r2 : Dqs K W.S us es) : Wk K (Itz K a b) W (zipD ds es) where
  go := fun i d W1 H μ g R e => by
    obtain ⟨d1, d2, e1, e2, rfl⟩ := zip_at e
    obtain ⟨v, a1, _⟩ := r.getD e1
    obtain ⟨u, a2, _⟩ := r2.getD e2
    exact ⟨vs, us, v, u, SqL.of (R.sub _ _ (g _ _ h)), SqL.of (R.sub _ _ (g _ _ h2)), a1, a2⟩
  yld := fun i d W1 H μ x H' g R e y => by
    obtain ⟨d1, d2, e1, e2, rfl⟩ := zip_at e
    obtain ⟨T, x1, x2, rfl, nT, rfl, f1, f2⟩ := y
    obtain ⟨v, a1, q1⟩ := r.getD e1
    obtain ⟨u, a2, q2⟩ := r2.getD e2
    have z1 := f1 vs (SqL.of (R.sub _ _ (g _ _ h)))
    have z2 := f2 us (SqL.of (R.sub _ _ (g _ _ h2)))
    rw [a1] at z1
    rw [a2] at z2
    cases z1
    cases z2
    exact pair_new R nT (Dq.mono g q1) (Dq.mono g q2)
  stop := fun i W1 H μ g R e => ⟨vs, us, SqL.of (R.sub _ _ (g _ _ h)), SqL.of (R.sub _ _ (g _ _ h2)), by rw [r.len, r2.len]; exact zip_len e⟩
theorem wk_zipT {K : PySem.W.Frag} {W : Wd} {a b : Addr} {vs us : List V} {ds es : List PyData} (h : SqT K W.S a vs) (r : Dqs K W.S vs ds) (h2 : SqT K W.S b us) (r2 : Dqs K W.S us es) : Wk K (RZ.ItzT K a b) W (zipD ds es) where
  go := fun i d W1 H μ g R e => by
    obtain ⟨d1, d2, e1, e2, rfl⟩ := zip_at e
    obtain ⟨v, a1, _⟩ := r.getD e1
    obtain ⟨u, a2, _⟩ := r2.getD e2
    exact ⟨vs, us, v, u, seqT_mono R.sub (seqT_mono g h), seqT_mono R.sub (seqT_mono g h2), a1, a2⟩
  yld := fun i d W1 H μ x H' g R e y => by
    obtain ⟨d1, d2, e1, e2, rfl⟩ := zip_at e
    obtain ⟨T, x1, x2, rfl, nT, rfl, f1, f2⟩ := y
    obtain ⟨v, a1, q1⟩ := r.getD e1
    obtain ⟨u, a2, q2⟩ := r2.getD e2
    have z1 := f1 vs (seqT_mono R.sub (seqT_mono g h))
    have z2 := f2 us (seqT_mono R.sub (seqT_mono g h2))
    rw [a1] at z1
    rw [a2] at z2
    cases z1
    cases z2
    exact pair_new R nT (Dq.mono g q1) (Dq.mono g q2)
  stop := fun i W1 H μ g R e => ⟨vs, us, seqT_mono R.sub (seqT_mono g h), seqT_mono R.sub (seqT_mono g h2), by rw [r.len, r2.len]; exact zip_len e⟩
def zipV (Fa Fb : Rho → M Sv) (ρ : Rho) : M (List PyData) := (Fa ρ).bind fun s => (Fb ρ).bind fun t => match s, t with
  | .dat (.list ds), .dat (.list es) => M.ret (zipD ds es)
  | .dat (.tuple ds), .dat (.tuple es) => M.ret (zipD ds es)
  | _, _ => M.fail
theorem i_zip {elts : List Expr} {kk : Nat} (hg : Gl X "zip") (hm : X.mg "zip" = none) (ha : PX X E a Fa) (hb : PX X E b Fb) (hs : starEach [a, b] X.env = (false, eval a X.env) :: starEach [b] X.env := by rfl) (hs2 : starEach [b] X.env = (false, eval b X.env) :: starEach [] X.env := by rfl) (hpl : (backTo pos (starEach [b] X.env)).any (·.1) = false := by rfl) :
    PIX X E (.Tuple elts kk tpos) (.Call (.Name "zip" p) [a, b] [] pos) (zipV Fa Fb) := pi_weak (RZ.pi_zipA hg hm (pa_cons ha (pa_cons hb pa_nil hs2) hs) hs hpl) fun σ H R ⟨W, ρ, μ, r, h, e, q⟩ => by
  refine tX_bind h e q fun v s W1 H1 μ1 g1 h1 rs e1 q1 => tX_bind h1 e1 q1 fun u t W2 H2 μ2 g2 h2 rt e2 q2 => ?_
  have rs' := rs.grow g2
  split at e2
  · cases e2
    cases rs' with
    | lst z1 y1 =>
      cases rt with
      | lst z2 y2 => exact ⟨_, _, _, _, rfl, .inl ⟨SqL.of (h2.rel.sub _ _ z1), SqL.of (h2.rel.sub _ _ z2), q2 _ _ (Grow.refl _ _ _) h2.rel _ (wk_zip z1 y1 z2 y2)⟩⟩
  · cases e2
    cases rs' with
    | tup z1 y1 =>
      cases rt with
      | tup z2 y2 => exact ⟨_, _, _, _, rfl, .inr ⟨seqT_mono h2.rel.sub z1, seqT_mono h2.rel.sub z2, q2 _ _ (Grow.refl _ _ _) h2.rel _ (wk_zipT z1 y1 z2 y2)⟩⟩
  · cases e2
def rngV2 (Fa Fb : Rho → M Sv) (ρ : Rho) : M (List PyData) := (Fa ρ).bind fun s => (asI s).bind fun i => (Fb ρ).bind fun t => (asI t).bind fun j => if (big62 i && big62 j) = true then M.ret (fromTo i (j - i).toNat) else M.fail
theorem big62_ok {i : Int} (h : big62 i = true) : -(2 ^ 62) ≤ i ∧ i < 2 ^ 62 := by
  obtain ⟨c1, c2⟩ := Bool.and_eq_true_iff.mp h
  exact ⟨of_decide_eq_true c1, of_decide_eq_true c2⟩
theorem i_rng2 (hg : Gl X "range") (hm : X.mg "range" = none) (ha : PX X E a Fa) (hb : PX X E b Fb) (hs : starEach [a, b] X.env = (false, eval a X.env) :: starEach [b] X.env := by rfl) (hs2 : starEach [b] X.env = (false, eval b X.env) :: starEach [] X.env := by rfl) (hs3 : starEach [a, b] X.env = [(false, eval a X.env), (false, eval b X.env)] := by rfl) :
    PIX X E tg (.Call (.Name "range" p) [a, b] [] pos) (rngV2 Fa Fb) := pi_weak (pi_range2 hg hm (pa_cons ha (pa_cons hb pa_nil hs2) hs) hs3 hs2) fun σ H R ⟨W, ρ, μ, r, h, e, q⟩ => by
  refine tX_bind h e q fun v s W1 H1 μ1 g1 h1 rs e1 q1 => ?_
  obtain ⟨i, rfl, e1⟩ := asI_bind e1
  refine tX_bind h1 e1 q1 fun u t W2 H2 μ2 g2 h2 rt e2 q2 => ?_
  obtain ⟨j, rfl, e2⟩ := asI_bind e2
  obtain ⟨c, e2⟩ := iff_ok e2
  obtain ⟨c1, c2⟩ := Bool.and_eq_true_iff.mp c
  have b1 := big62_ok c1
  have b2 := big62_ok c2
  cases rs
  cases rt
  cases e2
  exact ⟨i, j, rfl, ⟨b1.1, b1.2, b2.1, b2.2⟩, q2 _ _ (Grow.refl _ _ _) h2.rel _ wk_range⟩
end
end Pf

namespace Pf
open PySem PySem.Spec PyProof.Rows L2

/-! ### a body as its own promise -/
def strip (n : Nat) (G : Rho → M Out) (ss : List Sv) : M Sv := fun μ => match G (ini n ss) μ with
  | some (.ok (.rt s) μ') => some (.ok s μ')
  | some (.ok (.nx _) μ') => some (.ok (.dat .none) μ')
  | some (.ex c μ') => some (.ex c μ')
  | _ => none
section
variable {P : Program} {w : World} {K : PySem.W.Frag} {mg : Str → Option Value} {base : Heap} {k : Nat} {f : Addr} {fd : FuncData} {x qual : Str} {st : Stmt} {N ps : List Str}
theorem strip_ko {K : PySem.W.Frag} {E : XK} {W : Wd} {H : Hp} {μ : Mu} {ρ : Rho} {G : Rho → M Out} {n : Nat} {ss : List Sv} {r : Res Sv} {Q : VK} (e : strip n G ss μ = some r) (q : KoV K E W H μ r Q) :
    ∃ r', G (ini n ss) μ = some r' ∧ Ko K E W H μ r' (OutOk K { nx := fun _ H' => Q .non H', rt := Q }) := by
  unfold strip at e
  split at e
  · rename_i s μ' eg
    cases e
    exact ⟨_, eg, q⟩
  · rename_i ρ' μ' eg
    cases e
    exact ⟨_, eg, fun W' H' g R σ _ => q W' H' g R _ .non⟩
  · rename_i c μ' eg
    cases e
    exact ⟨_, eg, q⟩
  · cases e
theorem gk_strip {n : Nat} {l : Nat} (F : Fun K x qual st f fd) (S : FnScope N ps (defScope st)) (hn : ps.length = n) (hl : N.length = l)
    (G : Rho → M Out) (body : ∀ (cdv : Value) (A : Around) (below : List Env) (s : Shared) (H : Hp) (E : XK), A.guards = some [] → Room k (bx P w K mg base N qual st f cdv A below s H E).A → PSSX (bx P w K mg base N qual st f cdv A below s H E) E (defBody st) G) :
    Gk P w K mg base (L2.CX P w) (k + 1) f fd ps (spM K n (strip l G)) := by
  refine gk_run F S (fun vs H Q E h => h.1.trans hn.symm) fun cdv _ A below s H vs Q E hgd hr ⟨hvl, W, μ, ss, r, R, rs, e, q⟩ => ⟨_, body cdv A below s H E hgd hr, ?_⟩
  subst hl
  obtain ⟨r', e', q'⟩ := strip_ko (ρ := []) e q
  exact ⟨W, ini N.length ss, μ, r', ⟨R, ini_sl rs⟩, e', q'⟩
end
theorem strip_rt {n : Nat} {G : Rho → M Out} {ss : List Sv} {μ μ' : Mu} {s : Sv} (h : G (ini n ss) μ = some (.ok (.rt s) μ')) : strip n G ss μ = some (.ok s μ') := by
  unfold strip
  rw [h]

/-! ### running -/
theorem set_at {α : Type} {m : M α} {μ : Mu} : M.bind m M.ret μ = m μ := by
  unfold M.bind
  cases m μ with
  | none => rfl
  | some r => cases r <;> rfl
theorem lcL_map {T : Sv → Rho → M Rho} {Fe : Rho → M Sv} {ρ : Rho} {μ : Mu} (g : PyData → Sv) : ∀ {ds : List PyData}, (∀ d ∈ ds, ∃ ρ1, T (.dat d) ρ μ = some (.ok ρ1 μ) ∧ Fe ρ1 μ = some (.ok (g d) μ)) → lcL T yes Fe ds ρ μ = some (.ok (ds.map g) μ)
  | [], _ => rfl
  | d :: ds, h => by
    obtain ⟨ρ1, e1, e2⟩ := h d List.mem_cons_self
    have ih := lcL_map g (ds := ds) (T := T) (Fe := Fe) (ρ := ρ) (μ := μ) fun d hd => h d (List.mem_cons_of_mem _ hd)
    simp only [lcL, M.bind, noEx, e1, yes, M.ret, e2, if_true, ih, List.map_cons]

/-! ### the deck -/
def Gdeck : Rho → M Out :=
  (gRet (lstV true (argC (lcV true [1] (seqV (slV false (slot 0) noPart (aPart (con (.int 63))))) (gNm 1) yes (callV bAbs (argC (slot 1) argN))) (argC (con (.int 0)) argN))))
def Gdraw : Rho → M Out :=
  (gSeq (gAsg (bin (pAdd false) (bin pIx (slot 0) (con (.int 1))) (con (.int 1))) (gSt (slot 0) (con (.int 1))))
  (gSeq (gAsg (tupV (argC (con (.int 0)) (argC (negV (con (.int 1))) argN))) (gTp 2 (gsCons (gNm 2) (gsCons (gNm 3) gsNil))))
  (gSeq (gIf (tst (bin pGt (callV bLen (argC (bin pIx (slot 0) (con (.int 0))) argN)) (con (.int 0))))
  (gSeq (gSet 3 (bin pMod (bin pIx (slot 0) (con (.int 1))) (callV bLen (argC (bin pIx (slot 0) (con (.int 0))) argN))))
  (gSet 2 (bin pIx (bin pIx (slot 0) (con (.int 0))) (slot 3))))
  gSkip)
  (gSeq (gIf (tst (bin pGe (slot 2) (bin pPow (con (.int 10)) (con (.int 18)))))
  (gSeq (gAsg (bin pFdiv (slot 2) (slot 1)) (gSt (bin pIx (slot 0) (con (.int 0))) (slot 3)))
  (gRet (bin pMod (slot 2) (slot 1))))
  gSkip)
  (gRet (bin pMod (bin pFdiv (bin pMod (bin pPow (bin (pAdd false) (bin (pAdd false) (bin pMod (slot 2) (con (.int 2147483587))) (bin (pMul false) (con (.int 7919)) (bin pIx (slot 0) (con (.int 1))))) (con (.int 1))) (con (.int 5))) (con (.int 2147483647))) (con (.int 7))) (slot 1)))))))

def Fdeck : List Sv → M Sv := strip 2 Gdeck
def Fdraw : List Sv → M Sv := strip 4 Gdraw
abbrev svI (i : Int) : Sv := .dat (.int i)
def deckMu (cs : List Int) (n : Int) (rest : Mu) : Mu := .lst (cs.map svI) :: .lst [.ref 0, svI n] :: rest
structure Deck (n : Int) (rest μ : Mu) : Prop where
  ex : ∃ cs : List Int, cs.length ≤ 63 ∧ (∀ c ∈ cs, 0 ≤ c) ∧ μ = deckMu cs n rest
theorem deck_made (ns : List Int) (h : ns.length ≤ 63) : ∃ μ, Fdeck [.scr ns] [] = some (.ok (.ref 1) μ) ∧ Deck 0 [] μ := by
  have hcut : cutL ns none (some 63) = ns := by
    unfold cutL
    rw [HT.sIx_none]
    show (ns.drop 0).take (HT.sIx ns.length ns.length (some ((63 : Nat) : Int)) - 0) = ns
    rw [HT.sIx_nat, List.drop_zero]
    exact List.take_of_length_le (by omega)
  let ds := ns.map fun n => PyData.int n
  have e1 : dats (ns.map fun n => Sv.dat (.int n)) = some ds := by
    have := dats_map ds
    rw [List.map_map] at this
    exact this
  have e2 : lcL (gNm 1) yes (callV bAbs (argC (slot 1) argN)) ds (wipeR [some (.scr ns), none] [1]) [] = some (.ok (ds.map fun d => match d with | .int i => svI (if i < 0 then -i else i) | _ => svI 0) []) := by
    refine lcL_map _ fun d hd => ?_
    obtain ⟨i, _, rfl⟩ := List.mem_map.mp hd
    exact ⟨_, rfl, rfl⟩
  have e3 : (ds.map fun d => match d with | .int i => svI (if i < 0 then -i else i) | _ => svI 0) = (ns.map fun i => if i < 0 then -i else i).map svI := by
    rw [List.map_map, List.map_map]
    rfl
  have sz : szOk ds.length = true := decide_eq_true (by rw [List.length_map]; omega)
  have e : Gdeck [some (.scr ns), none] [] = some (.ok (.rt (.ref 1)) (deckMu (ns.map fun i => if i < 0 then -i else i) 0 [])) := by
    simp only [Gdeck, gRet, lstV, argC, lcV, seqV, slV, slot, noPart, aPart, con, asI, M.bind, M.ret, pSl, hcut, mkl, e1, Option.map, seqOf, List.getElem?_cons_zero, sz, if_true, e2, e3, argN, List.length_cons, List.length_nil]
    rfl
  refine ⟨_, strip_rt e, ⟨_, by rw [List.length_map]; exact h, fun c hc => ?_, rfl⟩⟩
  obtain ⟨i, _, rfl⟩ := List.mem_map.mp hc
  split <;> omega
end Pf

namespace Pf
open PySem PySem.Spec PyProof.Rows L2
/-! ### evaluation by simp -/
theorem atI_0 {α : Type} (x : α) (r : List α) : atI (x :: r) 0 = some x := by
  have := atI_nat (xs := x :: r) (j := 0) (v := x) rfl
  exact this
theorem atI_1 {α : Type} (x y : α) (r : List α) : atI (x :: y :: r) 1 = some y := atI_nat (xs := x :: y :: r) (j := 1) (v := y) rfl
theorem atI_2 {α : Type} (x y z : α) (r : List α) : atI (x :: y :: z :: r) 2 = some z := atI_nat (xs := x :: y :: z :: r) (j := 2) (v := z) rfl
theorem atI_3 {α : Type} (x y z u : α) (r : List α) : atI (x :: y :: z :: u :: r) 3 = some u := atI_nat (xs := x :: y :: z :: u :: r) (j := 3) (v := u) rfl
theorem atI_back {α : Type} (xs : List α) (x : α) : atI (xs ++ [x]) (-1) = some x := atI_last xs x
theorem atI_lt {α : Type} {xs : List α} {i : Int} (h0 : 0 ≤ i) (h1 : i < xs.length) : ∃ x, xs[i.toNat]? = some x ∧ atI xs i = some x := by
  have hi : i.toNat < xs.length := by omega
  refine ⟨xs[i.toNat], List.getElem?_eq_getElem hi, ?_⟩
  have := atI_nat (List.getElem?_eq_getElem hi)
  rw [Int.toNat_of_nonneg h0] at this
  exact this
theorem ixN_lt {n : Nat} {i : Int} (h0 : 0 ≤ i) (h1 : i < n) : ixN n i = some i.toNat := by
  unfold ixN
  rw [if_pos h0, if_pos h1]
theorem fail_at {α : Type} (μ : Mu) : (M.fail : M α) μ = none := rfl
theorem ret_at {α : Type} (a : α) (μ : Mu) : M.ret a μ = some (.ok a μ) := rfl
theorem iteM {α : Type} {c : Prop} [Decidable c] (m m' : M α) (μ : Mu) : (if c then m else m') μ = if c then m μ else m' μ := by
  by_cases h : c
  · rw [if_pos h, if_pos h]
  · rw [if_neg h, if_neg h]
/-- a statement of a row: this ends so -/
theorem seq_at {G G' : Rho → M Out} {ρ ρ' : Rho} {μ μ' : Mu} (h : G ρ μ = some (.ok (.nx ρ') μ')) : gSeq G G' ρ μ = G' ρ' μ' := by
  unfold gSeq M.bind
  rw [h]
theorem seq_rt {G G' : Rho → M Out} {ρ : Rho} {μ μ' : Mu} {s : Sv} (h : G ρ μ = some (.ok (.rt s) μ')) : gSeq G G' ρ μ = some (.ok (.rt s) μ') := by
  unfold gSeq M.bind
  rw [h]
  rfl
theorem if_t {F : Rho → M Bool} {G G' : Rho → M Out} {ρ : Rho} {μ μ' : Mu} (h : F ρ μ = some (.ok true μ')) : gIf F G G' ρ μ = G ρ μ' := by
  unfold gIf M.bind
  rw [h]
  rfl
theorem if_f {F : Rho → M Bool} {G G' : Rho → M Out} {ρ : Rho} {μ μ' : Mu} (h : F ρ μ = some (.ok false μ')) : gIf F G G' ρ μ = G' ρ μ' := by
  unfold gIf M.bind
  rw [h]
  rfl
theorem bin_at {op : Sv → Sv → M Sv} {Fa Fb : Rho → M Sv} {ρ : Rho} {μ μ1 μ2 : Mu} {a b : Sv} (h1 : Fa ρ μ = some (.ok a μ1)) (h2 : Fb ρ μ1 = some (.ok b μ2)) : bin op Fa Fb ρ μ = op a b μ2 := by
  unfold bin
  rw [bind_ok h1, bind_ok h2]
theorem gset_at {i : Nat} {Fa : Rho → M Sv} {ρ : Rho} {μ μ' : Mu} {s : Sv} (h : Fa ρ μ = some (.ok s μ')) : gSet i Fa ρ μ = some (.ok (.nx (ρ.set i (some s))) μ') := by
  unfold gSet
  rw [bind_ok h]
  rfl
theorem ret_gives {Fa : Rho → M Sv} {ρ : Rho} {μ μ' : Mu} {s : Sv} (h : Fa ρ μ = some (.ok s μ')) : gRet Fa ρ μ = some (.ok (.rt s) μ') := by
  unfold gRet
  rw [bind_ok h]
  rfl
/-! ### the draws -/
theorem draw_tail {cell n L : Int} {cs : List Int} {rest : Mu} (i : Sv) (hc : 0 ≤ cell) (h0 : 0 ≤ n) (h1 : n < 10 ^ 12) (hL : 0 < L) :
    ∃ r, (gRet (bin pMod (bin pFdiv (bin pMod (bin pPow (bin (pAdd false) (bin (pAdd false) (bin pMod (slot 2) (con (.int 2147483587))) (bin (pMul false) (con (.int 7919)) (bin pIx (slot 0) (con (.int 1))))) (con (.int 1))) (con (.int 5))) (con (.int 2147483647))) (con (.int 7))) (slot 1)))
      [some (.ref 1), some (svI L), some (svI cell), some i] (deckMu cs n rest) = some (.ok (.rt (svI r)) (deckMu cs n rest)) ∧ 0 ≤ r ∧ r < L := by
  have b1 : 0 ≤ cell % 2147483587 := Int.emod_nonneg _ (by decide)
  have b2 : cell % 2147483587 < 2147483587 := Int.emod_lt_of_pos _ (by decide)
  have c1 : (small 7919 || small n) = true := rfl
  have c2 : (decide ((0 : Int) ≤ 5) && decide ((5 : Int) ≤ 1000000) && decide ((cell % 2147483587 + 7919 * n + 1).natAbs < 2 ^ 64)) = true := by
    have : (cell % 2147483587 + 7919 * n + 1).natAbs < 2 ^ 64 := by omega
    rw [decide_eq_true this]
    rfl
  have c3 : decide (0 < L) = true := decide_eq_true hL
  refine ⟨(cell % 2147483587 + 7919 * n + 1) ^ (5 : Int).toNat % 2147483647 / 7 % L, ?_, Int.emod_nonneg _ (by omega), Int.emod_lt_of_pos _ hL⟩
  simp only [gRet, bin, slot, con, pMod, pFdiv, pPow, pAdd, pMul, pIx, lsOf, M.bind, List.getElem?_cons_succ, List.getElem?_cons_zero, svI, deckMu, orFail, c1, c2, c3, atI_1, if_true, Option.map, decide_true, Bool.and_self, ite_true, Int.reduceLT, iteM, ret_at]
theorem draw_head {n L : Int} {cs : List Int} {rest : Mu} : ((gAsg (bin (pAdd false) (bin pIx (slot 0) (con (.int 1))) (con (.int 1))) (gSt (slot 0) (con (.int 1))))) [some (.ref 1), some (svI L), none, none] (deckMu cs n rest) =
    some (.ok (.nx [some (.ref 1), some (svI L), none, none]) (deckMu cs (n + 1) rest)) := rfl
theorem draw_ok {n L : Int} {rest μ : Mu} (D : Deck n rest μ) (h0 : 0 ≤ n) (h1 : n < 10 ^ 11) (hL : 0 < L) (hL2 : L < 1073741824) :
    ∃ r μ', Fdraw [.ref 1, svI L] μ = some (.ok (svI r) μ') ∧ 0 ≤ r ∧ r < L ∧ Deck (n + 1) rest μ' := by
  obtain ⟨cs, hl, hp, rfl⟩ := D.ex
  have c3 : decide (0 < L) = true := decide_eq_true hL
  have c4 : decide (L < 1073741824) = true := decide_eq_true hL2
  suffices h : ∃ r cs', Gdraw [some (.ref 1), some (svI L), none, none] (deckMu cs n rest) = some (.ok (.rt (svI r)) (deckMu cs' (n + 1) rest)) ∧ 0 ≤ r ∧ r < L ∧ cs'.length ≤ 63 ∧ ∀ c ∈ cs', 0 ≤ c by
    obtain ⟨r, cs', e, a, b, c, d⟩ := h
    exact ⟨r, _, strip_rt e, a, b, ⟨cs', c, d, rfl⟩⟩
  unfold Gdraw
  rw [seq_at draw_head]
  refine (?_ : ∃ r cs', gSeq _ _ _ _ = _ ∧ _)
  have tst0 : ∀ ρ : Rho, ∀ l s t, (tst (bin pGt (callV bLen (argC (bin pIx (slot 0) (con (.int 0))) argN)) (con (.int 0)))) [some (.ref 1), l, s, t] (deckMu cs (n + 1) rest) = some (.ok (decide (0 < (cs.length : Int))) (deckMu cs (n + 1) rest)) := fun ρ l s t => by
    simp only [tst, bin, callV, argC, argN, bLen, pGt, pCmp, slot, con, pIx, lsOf, M.bind, List.getElem?_cons_succ, List.getElem?_cons_zero, svI, deckMu, orFail, atI_0, Option.map, ret_at, List.length_map, asB]
  have pair : ∀ l s t, ((gAsg (tupV (argC (con (.int 0)) (argC (negV (con (.int 1))) argN))) (gTp 2 (gsCons (gNm 2) (gsCons (gNm 3) gsNil))))) [some (.ref 1), l, s, t] (deckMu cs (n + 1) rest) = some (.ok (.nx [some (.ref 1), l, some (svI 0), some (svI (-1))]) (deckMu cs (n + 1) rest)) := fun _ _ _ => rfl
  have ge18 : ∀ l t c, (tst (bin pGe (slot 2) (bin pPow (con (.int 10)) (con (.int 18))))) [some (.ref 1), l, some (svI c), t] (deckMu cs (n + 1) rest) = some (.ok (decide (10 ^ 18 ≤ c)) (deckMu cs (n + 1) rest)) := fun l t c => rfl
  rw [seq_at (pair _ _ _)]
  by_cases he : cs = []
  · subst he
    have t0 := tst0 [] (some (svI L)) (some (svI 0)) (some (svI (-1)))
    rw [seq_at (ρ' := [some (.ref 1), some (svI L), some (svI 0), some (svI (-1))]) (μ' := deckMu [] (n + 1) rest) (by rw [if_f t0]; rfl)]
    rw [seq_at (ρ' := [some (.ref 1), some (svI L), some (svI 0), some (svI (-1))]) (μ' := deckMu [] (n + 1) rest) (by rw [if_f (ge18 _ _ _)]; rfl)]
    obtain ⟨r, e, a, b⟩ := draw_tail (cell := 0) (n := n + 1) (L := L) (cs := []) (rest := rest) (svI (-1)) (by decide) (by omega) (by omega) hL
    exact ⟨r, [], e, a, b, by simp, fun _ z => nomatch z⟩
  · have hpos : 0 < cs.length := List.length_pos_iff.mpr he
    have cpos : decide (0 < (cs.length : Int)) = true := decide_eq_true (by omega)
    have i0 : 0 ≤ (n + 1) % (cs.length : Int) := Int.emod_nonneg _ (by omega)
    have i1 : (n + 1) % (cs.length : Int) < cs.length := Int.emod_lt_of_pos _ (by omega)
    obtain ⟨cell, g1, g2⟩ := atI_lt (xs := cs) i0 i1
    have hcell : 0 ≤ cell := hp _ (List.mem_of_getElem? g1)
    have g3 : atI (cs.map svI) ((n + 1) % (cs.length : Int)) = some (svI cell) := by
      unfold atI at g2 ⊢
      rw [List.length_map]
      rw [ixN_lt i0 i1] at g2 ⊢
      show (cs.map svI)[_]? = _
      rw [List.getElem?_map, g1]
      rfl
    have t0 := tst0 [] (some (svI L)) (some (svI 0)) (some (svI (-1)))
    rw [cpos] at t0
    rw [seq_at (ρ' := [some (.ref 1), some (svI L), some (svI cell), some (svI ((n + 1) % (cs.length : Int)))]) (μ' := deckMu cs (n + 1) rest) (by
      rw [if_t t0]
      simp only [gSeq, gSet, bin, callV, argC, argN, bLen, pMod, slot, con, pIx, lsOf, M.bind, List.getElem?_cons_succ, List.getElem?_cons_zero, svI, deckMu, orFail, atI_0, atI_1, Option.map, ret_at, List.length_map, iteM, cpos, ite_true, List.set_cons_succ, List.set_cons_zero]
      rw [show List.map (fun i => Sv.dat (PyData.int i)) cs = cs.map svI from rfl, g3])]
    by_cases hb : 10 ^ 18 ≤ cell
    · have gg := ge18 (some (svI L)) (some (svI ((n + 1) % (cs.length : Int)))) cell
      rw [decide_eq_true hb] at gg
      refine ⟨cell % L, cs.set ((n + 1) % (cs.length : Int)).toNat (cell / L), ?_, Int.emod_nonneg _ (by omega), Int.emod_lt_of_pos _ hL, by rw [List.length_set]; exact hl, fun c hc => ?_⟩
      · refine seq_rt ?_
        rw [if_t gg]
        have e1 : ((gAsg (bin pFdiv (slot 2) (slot 1)) (gSt (bin pIx (slot 0) (con (.int 0))) (slot 3)))) [some (.ref 1), some (svI L), some (svI cell), some (svI ((n + 1) % (cs.length : Int)))] (deckMu cs (n + 1) rest) =
            some (.ok (.nx [some (.ref 1), some (svI L), some (svI cell), some (svI ((n + 1) % (cs.length : Int)))]) (deckMu (cs.set ((n + 1) % (cs.length : Int)).toNat (cell / L)) (n + 1) rest)) := by
          have hix : ixN (cs.map svI).length ((n + 1) % (cs.length : Int)) = some ((n + 1) % (cs.length : Int)).toNat := by
            rw [List.length_map]
            exact ixN_lt i0 i1
          simp only [gAsg, gSt, bin, pFdiv, slot, con, pIx, lsOf, M.bind, List.getElem?_cons_succ, List.getElem?_cons_zero, svI, deckMu, orFail, atI_0, Option.map, ret_at, iteM, c3, c4, Bool.and_self, ite_true, asI, tagOf, wrt]
          rw [show List.map (fun i => Sv.dat (PyData.int i)) cs = cs.map svI from rfl, hix]
          simp only [List.set_cons_zero, List.map_set]
        rw [seq_at e1]
        simp only [gRet, bin, pMod, slot, M.bind, List.getElem?_cons_succ, List.getElem?_cons_zero, svI, ret_at, iteM, c3, ite_true]
      · rcases List.mem_or_eq_of_mem_set hc with z | z
        · exact hp _ z
        · rw [z]
          exact Int.ediv_nonneg hcell (by omega)
    · have gg := ge18 (some (svI L)) (some (svI ((n + 1) % (cs.length : Int)))) cell
      rw [decide_eq_false hb] at gg
      rw [seq_at (ρ' := [some (.ref 1), some (svI L), some (svI cell), some (svI ((n + 1) % (cs.length : Int)))]) (μ' := deckMu cs (n + 1) rest) (by rw [if_f gg]; rfl)]
      obtain ⟨r, e, a, b⟩ := draw_tail (cell := cell) (n := n + 1) (L := L) (cs := cs) (rest := rest) (svI ((n + 1) % (cs.length : Int))) hcell (by omega) (by omega) hL
      exact ⟨r, cs, e, a, b, hl, hp⟩
end Pf

namespace Pf
open PySem PySem.Spec PyProof.Rows L2
def Gtree : Rho → M Out :=
  (gSeq (gSet 2 (bin pIx (lstV false (argC (bin (pAdd false) (con (.int 1)) (callF Fdraw 2 (argC (slot 0) (argC (slot 1) argN)))) (argC (slot 1) argN))) (callF Fdraw 2 (argC (slot 0) (argC (con (.int 2)) argN)))))
  (gSeq (gPar3 4 5 6 (argC (callF Fdraw 2 (argC (slot 0) (argC (con (.int 4)) argN))) (argC (bin pIx (lstV false (argC (con (.int 1)) (argC (con (.int 3)) (argC (con (.int 9)) (argC (bin pPow (con (.int 10)) (con (.int 6))) argN))))) (callF Fdraw 2 (argC (slot 0) (argC (con (.int 4)) argN)))) (argC (tupV argN) argN))))
  (gSeq (gFor (rngV (bin pSub (slot 2) (con (.int 1)))) (gNm 3)
  (gSeq (gSet 7 (bin pIx (lstV false (argC (callF Fdraw 2 (argC (slot 0) (argC (bin (pAdd false) (slot 3) (con (.int 1))) argN))) (argC (slot 3) (argC (con (.int 0)) (argC (callV bMax2 (argC (con (.int 0)) (argC (bin pSub (slot 3) (con (.int 1))) argN))) argN))))) (slot 4)))
  (gSet 6 (bin (pAdd false) (slot 6) (tupV (argC (tupV (argC (slot 7) (argC (bin (pAdd false) (con (.int 1)) (callF Fdraw 2 (argC (slot 0) (argC (slot 5) argN)))) argN))) argN))))))
  (gRet (slot 6)))))
def Gsame : Rho → M Out :=
  (gRet (bin pEq (callV bRepr (argC (slot 0) argN)) (callV bRepr (argC (slot 1) argN))))

def Ftree : List Sv → M Sv := strip 8 Gtree
def Fsame : List Sv → M Sv := strip 2 Gsame
/-! ### trees -/
def rowD (r : Int × Int) : PyData := .tuple [.int r.1, .int r.2]
def treeD (rows : List (Int × Int)) : PyData := .tuple (rows.map rowD)
def TreeOk (rows : List (Int × Int)) : Prop := ∀ (k : Nat) (r : Int × Int), rows[k]? = some r → 0 ≤ r.1 ∧ r.1 ≤ k ∧ 1 ≤ r.2 ∧ r.2 ≤ 1000000
theorem TreeOk.nil : TreeOk [] := fun k r h => by simp at h
theorem TreeOk.snoc {rows : List (Int × Int)} {p l : Int} (h : TreeOk rows) (a : 0 ≤ p) (b : p ≤ rows.length) (c : 1 ≤ l) (d : l ≤ 1000000) : TreeOk (rows ++ [(p, l)]) := fun k r e => by
  by_cases hk : k < rows.length
  · rw [List.getElem?_append_left hk] at e
    exact h k r e
  · have hk2 : k < (rows ++ [(p, l)]).length := (List.getElem?_eq_some_iff.mp e).1
    rw [List.length_append, List.length_singleton] at hk2
    have : k = rows.length := by omega
    subst this
    rw [List.getElem?_append_right (Nat.le_refl _), Nat.sub_self] at e
    cases e
    exact ⟨a, b, c, d⟩
theorem four {i : Int} (h0 : 0 ≤ i) (h1 : i < 4) : i = 0 ∨ i = 1 ∨ i = 2 ∨ i = 3 := by omega
theorem two {i : Int} (h0 : 0 ≤ i) (h1 : i < 2) : i = 0 ∨ i = 1 := by omega
abbrev treeTurn : Rho → M Out := (gSeq (gSet 7 (bin pIx (lstV false (argC (callF Fdraw 2 (argC (slot 0) (argC (bin (pAdd false) (slot 3) (con (.int 1))) argN))) (argC (slot 3) (argC (con (.int 0)) (argC (callV bMax2 (argC (con (.int 0)) (argC (bin pSub (slot 3) (con (.int 1))) argN))) argN))))) (slot 4)))
  (gSet 6 (bin (pAdd false) (slot 6) (tupV (argC (tupV (argC (slot 7) (argC (bin (pAdd false) (con (.int 1)) (callF Fdraw 2 (argC (slot 0) (argC (slot 5) argN)))) argN))) argN)))))
theorem tree_turn {n : Int} {rest μ : Mu} {most count way long : Int} {rows : List (Int × Int)} {y7 : Option Sv} (D : Deck n rest μ) (h0 : 0 ≤ n) (h1 : n < 10 ^ 10) (hw : 0 ≤ way) (hw2 : way < 4) (hl : 1 ≤ long) (hl2 : long ≤ 1000000) (ok : TreeOk rows) (hr : rows.length ≤ 100) :
    ∃ p l μ', treeTurn [some (.ref 1), some (svI most), some (svI count), some (svI (rows.length : Nat)), some (svI way), some (svI long), some (.dat (treeD rows)), y7] μ =
      some (.ok (.nx [some (.ref 1), some (svI most), some (svI count), some (svI (rows.length : Nat)), some (svI way), some (svI long), some (.dat (treeD (rows ++ [(p, l)]))), some (svI p)]) μ') ∧ TreeOk (rows ++ [(p, l)]) ∧ Deck (n + 2) rest μ' := by
  obtain ⟨a, μ1, e1, a0, a1, D1⟩ := draw_ok D h0 (by omega) (L := (rows.length : Nat) + 1) (by omega) (by omega)
  obtain ⟨b, μ2, e2, b0, b1, D2⟩ := draw_ok D1 (by omega) (by omega) (L := long) (by omega) (by omega)
  have D3 : Deck (n + 2) rest μ2 := by
    have : n + 1 + 1 = n + 2 := by omega
    rw [← this]
    exact D2
  have fin : ∀ p : Int, 0 ≤ p → p ≤ rows.length → (gSet 6 (bin (pAdd false) (slot 6) (tupV (argC (tupV (argC (slot 7) (argC (bin (pAdd false) (con (.int 1)) (callF Fdraw 2 (argC (slot 0) (argC (slot 5) argN)))) argN))) argN))))
      [some (.ref 1), some (svI most), some (svI count), some (svI (rows.length : Nat)), some (svI way), some (svI long), some (.dat (treeD rows)), some (svI p)] μ1 =
      some (.ok (.nx [some (.ref 1), some (svI most), some (svI count), some (svI (rows.length : Nat)), some (svI way), some (svI long), some (.dat (treeD (rows ++ [(p, 1 + b)]))), some (svI p)]) μ2) := fun p p0 p1 => by
    have sz : szOk ((rows.map rowD).length + 1) = true := decide_eq_true (by rw [List.length_map]; omega)
    have sz2 : szOk 2 = true := rfl
    have sz1 : szOk 1 = true := rfl
    simp only [gSet, bin, slot, con, pAdd, tupV, argC, argN, callF, M.bind, ret_at, List.getElem?_cons_succ, List.getElem?_cons_zero, iteM, e2, List.length_cons, List.length_nil, Nat.zero_add, Nat.reduceAdd, decide_true, ite_true, mkt, dats, Option.map, treeD, sz, sz1, sz2, List.set_cons_succ, List.set_cons_zero, List.map_append, List.map_cons, List.map_nil, rowD]
  have lst : (lstV false (argC (callF Fdraw 2 (argC (slot 0) (argC (bin (pAdd false) (slot 3) (con (.int 1))) argN))) (argC (slot 3) (argC (con (.int 0)) (argC (callV bMax2 (argC (con (.int 0)) (argC (bin pSub (slot 3) (con (.int 1))) argN))) argN)))))
      [some (.ref 1), some (svI most), some (svI count), some (svI (rows.length : Nat)), some (svI way), some (svI long), some (.dat (treeD rows)), y7] μ =
      some (.ok (.dat (.list [.int a, .int (rows.length : Nat), .int 0, .int (if (rows.length : Nat) - (1 : Int) > 0 then (rows.length : Nat) - 1 else 0)])) μ1) := by
    have sz4 : szOk 4 = true := rfl
    simp only [lstV, bin, slot, con, pAdd, pSub, argC, argN, callF, callV, bMax2, M.bind, ret_at, List.getElem?_cons_succ, List.getElem?_cons_zero, iteM, e1, List.length_cons, List.length_nil, Nat.zero_add, Nat.reduceAdd, decide_true, ite_true, mkl, dats, Option.map, sz4]
  have go : ∀ p : Int, atI [svI a, svI (rows.length : Nat), svI 0, svI (if (rows.length : Nat) - (1 : Int) > 0 then (rows.length : Nat) - 1 else 0)] way = some (svI p) → 0 ≤ p → p ≤ rows.length →
      ∃ p l μ', treeTurn [some (.ref 1), some (svI most), some (svI count), some (svI (rows.length : Nat)), some (svI way), some (svI long), some (.dat (treeD rows)), y7] μ =
      some (.ok (.nx [some (.ref 1), some (svI most), some (svI count), some (svI (rows.length : Nat)), some (svI way), some (svI long), some (.dat (treeD (rows ++ [(p, l)]))), some (svI p)]) μ') ∧ TreeOk (rows ++ [(p, l)]) ∧ Deck (n + 2) rest μ' := fun p ep p0 p1 => by
    refine ⟨p, 1 + b, μ2, ?_, ok.snoc p0 p1 (by omega) (by omega), D3⟩
    have s1 : (gSet 7 (bin pIx (lstV false (argC (callF Fdraw 2 (argC (slot 0) (argC (bin (pAdd false) (slot 3) (con (.int 1))) argN))) (argC (slot 3) (argC (con (.int 0)) (argC (callV bMax2 (argC (con (.int 0)) (argC (bin pSub (slot 3) (con (.int 1))) argN))) argN))))) (slot 4)))
        [some (.ref 1), some (svI most), some (svI count), some (svI (rows.length : Nat)), some (svI way), some (svI long), some (.dat (treeD rows)), y7] μ =
        some (.ok (.nx [some (.ref 1), some (svI most), some (svI count), some (svI (rows.length : Nat)), some (svI way), some (svI long), some (.dat (treeD rows)), some (svI p)]) μ1) := by
      refine gset_at ?_
      rw [bin_at lst (show slot 4 _ _ = some (.ok (svI way) μ1) from rfl)]
      simp only [pIx, lsOf, M.bind, List.map_cons, List.map_nil, orFail, ep, Option.map]
    show gSeq _ _ _ _ = _
    rw [seq_at s1]
    exact fin p p0 p1
  rcases four hw hw2 with rfl | rfl | rfl | rfl
  · exact go a (atI_0 _ _) a0 (by omega)
  · exact go _ (atI_1 _ _ _) (by omega) (by omega)
  · exact go _ (atI_2 _ _ _ _) (by omega) (by omega)
  · refine go _ (atI_3 _ _ _ _ _) ?_ ?_
    · split <;> omega
    · split <;> omega
theorem tree_loop {rest : Mu} {most count way long : Int} (hw : 0 ≤ way) (hw2 : way < 4) (hl : 1 ≤ long) (hl2 : long ≤ 1000000) : ∀ (m : Nat) (rows : List (Int × Int)) (n : Int) (μ : Mu) (y3 y7 : Option Sv), Deck n rest μ → 0 ≤ n → n + 2 * m < 10 ^ 10 → TreeOk rows → rows.length + m ≤ 100 →
    ∃ rows' μ' z3 z7, loopG (gNm 3) treeTurn ((List.range' rows.length m).map fun k => .int (0 + (k : Nat))) [some (.ref 1), some (svI most), some (svI count), y3, some (svI way), some (svI long), some (.dat (treeD rows)), y7] μ =
      some (.ok (.nx [some (.ref 1), some (svI most), some (svI count), z3, some (svI way), some (svI long), some (.dat (treeD rows')), z7]) μ') ∧ TreeOk rows' ∧ rows'.length = rows.length + m ∧ Deck (n + 2 * m) rest μ'
  | 0, rows, n, μ, y3, y7, D, _, _, ok, _ => ⟨rows, μ, y3, y7, rfl, ok, rfl, by simpa using D⟩
  | m + 1, rows, n, μ, y3, y7, D, h0, h1, ok, hr => by
    obtain ⟨p, l, μ1, e1, ok1, D1⟩ := tree_turn (most := most) (count := count) (y7 := y7) D h0 (by omega) hw hw2 hl hl2 ok (by omega)
    have hlen : (rows ++ [(p, l)]).length = rows.length + 1 := by simp
    obtain ⟨rows', μ2, z3, z7, e2, ok2, hl2', D2⟩ := tree_loop hw hw2 hl hl2 m (rows ++ [(p, l)]) (n + 2) μ1 (some (svI (rows.length : Nat))) (some (svI p)) D1 (by omega) (by omega) ok1 (by omega)
    refine ⟨rows', μ2, z3, z7, ?_, ok2, by omega, ?_⟩
    · rw [List.range'_succ, List.map_cons]
      have z : (0 : Int) + ((rows.length : Nat) : Int) = (rows.length : Nat) := by omega
      simp only [loopG, gNm, M.bind, ret_at, List.set_cons_succ, List.set_cons_zero, z]
      rw [show ([some (.ref 1), some (svI most), some (svI count), some (Sv.dat (PyData.int (rows.length : Nat))), some (svI way), some (svI long), some (.dat (treeD rows)), y7] : Rho) = [some (.ref 1), some (svI most), some (svI count), some (svI (rows.length : Nat)), some (svI way), some (svI long), some (.dat (treeD rows)), y7] from rfl, e1]
      rw [hlen] at e2
      exact e2
    · have : n + 2 + 2 * (m : Int) = n + 2 * ((m + 1 : Nat) : Int) := by omega
      rw [← this]
      exact D2
theorem tree_ok {n : Int} {rest μ : Mu} {most : Int} (D : Deck n rest μ) (h0 : 0 ≤ n) (h1 : n < 10 ^ 9) (hm : 1 ≤ most) (hm2 : most ≤ 12) :
    ∃ rows μ' n', Ftree [.ref 1, svI most] μ = some (.ok (.dat (treeD rows)) μ') ∧ TreeOk rows ∧ (rows.length : Int) + 1 ≤ most ∧ Deck n' rest μ' ∧ n ≤ n' ∧ n' ≤ n + 40 := by
  obtain ⟨a, μ1, e1, a0, a1, D1⟩ := draw_ok D h0 (by omega) (L := most) (by omega) (by omega)
  obtain ⟨b, μ2, e2, b0, b1, D2⟩ := draw_ok D1 (by omega) (by omega) (L := 2) (by omega) (by omega)
  obtain ⟨way, μ3, e3, c0, c1, D3⟩ := draw_ok D2 (by omega) (by omega) (L := 4) (by omega) (by omega)
  obtain ⟨d, μ4, e4, d0, d1, D4⟩ := draw_ok D3 (by omega) (by omega) (L := 4) (by omega) (by omega)
  obtain ⟨count, hc1, hc2, hc⟩ : ∃ count : Int, 1 ≤ count ∧ count ≤ most ∧ atI [svI (1 + a), svI most] b = some (svI count) := by
    rcases two b0 b1 with rfl | rfl
    · exact ⟨_, by omega, by omega, atI_0 _ _⟩
    · exact ⟨_, hm, Int.le_refl _, atI_1 _ _ _⟩
  obtain ⟨long, hl1, hl2, hl⟩ : ∃ long : Int, 1 ≤ long ∧ long ≤ 1000000 ∧ atI [svI 1, svI 3, svI 9, svI 1000000] d = some (svI long) := by
    rcases four d0 d1 with rfl | rfl | rfl | rfl
    · exact ⟨_, by omega, by omega, atI_0 _ _⟩
    · exact ⟨_, by omega, by omega, atI_1 _ _ _⟩
    · exact ⟨_, by omega, by omega, atI_2 _ _ _ _⟩
    · exact ⟨_, by omega, by omega, atI_3 _ _ _ _ _⟩
  obtain ⟨rows, μ5, z3, z7, e5, ok, hlen, D5⟩ := tree_loop (rest := rest) (most := most) (count := count) (way := way) (long := long) c0 c1 hl1 hl2 (count - 1).toNat [] (n + 1 + 1 + 1 + 1) μ4 none none D4 (by omega) (by omega) .nil (by simp; omega)
  refine ⟨rows, μ5, _, strip_rt ?_, ok, ?_, D5, by omega, by omega⟩
  · show Gtree [some (.ref 1), some (svI most), none, none, none, none, none, none] μ = _
    unfold Gtree
    have sz2 : szOk 2 = true := rfl
    have sz4 : szOk 4 = true := rfl
    have sz0 : szOk 0 = true := rfl
    have s1 : (gSet 2 (bin pIx (lstV false (argC (bin (pAdd false) (con (.int 1)) (callF Fdraw 2 (argC (slot 0) (argC (slot 1) argN)))) (argC (slot 1) argN))) (callF Fdraw 2 (argC (slot 0) (argC (con (.int 2)) argN))))) [some (.ref 1), some (svI most), none, none, none, none, none, none] μ =
        some (.ok (.nx [some (.ref 1), some (svI most), some (svI count), none, none, none, none, none]) μ2) := by
      simp only [gSet, lstV, bin, slot, con, pAdd, argC, argN, callF, M.bind, ret_at, List.getElem?_cons_succ, List.getElem?_cons_zero, iteM, e1, e2, List.length_cons, List.length_nil, Nat.zero_add, Nat.reduceAdd, decide_true, ite_true, mkl, dats, Option.map, sz2, pIx, lsOf, List.map_cons, List.map_nil, hc, orFail, List.set_cons_succ, List.set_cons_zero]
    rw [seq_at s1]
    have s2 : (gPar3 4 5 6 (argC (callF Fdraw 2 (argC (slot 0) (argC (con (.int 4)) argN))) (argC (bin pIx (lstV false (argC (con (.int 1)) (argC (con (.int 3)) (argC (con (.int 9)) (argC (bin pPow (con (.int 10)) (con (.int 6))) argN))))) (callF Fdraw 2 (argC (slot 0) (argC (con (.int 4)) argN)))) (argC (tupV argN) argN))))
        [some (.ref 1), some (svI most), some (svI count), none, none, none, none, none] μ2 = some (.ok (.nx [some (.ref 1), some (svI most), some (svI count), none, some (svI way), some (svI long), some (.dat (treeD [])), none]) μ4) := by
      have p6 : pPow (svI 10) (svI 6) μ3 = some (.ok (svI 1000000) μ3) := rfl
      simp only [gPar3, lstV, tupV, bin, slot, con, argC, argN, callF, M.bind, ret_at, List.getElem?_cons_succ, List.getElem?_cons_zero, iteM, e3, e4, p6, List.length_cons, List.length_nil, Nat.zero_add, Nat.reduceAdd, decide_true, ite_true, mkl, mkt, dats, Option.map, sz0, sz4, pIx, lsOf, List.map_cons, List.map_nil, hl, orFail, List.set_cons_succ, List.set_cons_zero]
      rfl
    rw [seq_at s2]
    have s3 : (gFor (rngV (bin pSub (slot 2) (con (.int 1)))) (gNm 3) treeTurn) [some (.ref 1), some (svI most), some (svI count), none, some (svI way), some (svI long), some (.dat (treeD [])), none] μ4 =
        some (.ok (.nx [some (.ref 1), some (svI most), some (svI count), z3, some (svI way), some (svI long), some (.dat (treeD rows)), z7]) μ5) := by
      have bg : big62 (count - 1) = true := by
        unfold big62
        rw [decide_eq_true (show -(2 ^ 62) ≤ count - 1 by omega), decide_eq_true (show count - 1 < 2 ^ 62 by omega)]
        rfl
      simp only [gFor, rngV, bin, slot, con, pSub, asI, M.bind, ret_at, List.getElem?_cons_succ, List.getElem?_cons_zero, iteM, bg, ite_true, fromTo, List.range_eq_range']
      exact e5
    rw [seq_at s3]
    rfl
  · simp at hlen
    omega
end Pf

namespace Pf
open PySem PySem.Spec PyProof.Rows L2
/-! ### data whose repr is short -/
mutual
def wt : PyData → Nat
  | .none => 4
  | .bool _ => 5
  | .int _ => 44
  | .str x => (reprText x).length
  | .list ds => wts ds + 2
  | .tuple ds => wts ds + 3
  | .dict ds => wtk ds + 2
def wts : List PyData → Nat
  | [] => 0
  | d :: ds => wt d + 2 + wts ds
def wtk : List (PyData × PyData) → Nat
  | [] => 0
  | (c, d) :: ds => wt c + wt d + 4 + wtk ds
end
mutual
def lfs : PyData → Bool
  | .int i => decide (i.natAbs < 10 ^ 42)
  | .list ds => lfss ds
  | .tuple ds => lfss ds
  | .dict ds => lfsk ds
  | _ => true
def lfss : List PyData → Bool
  | [] => true
  | d :: ds => lfs d && lfss ds
def lfsk : List (PyData × PyData) → Bool
  | [] => true
  | (c, d) :: ds => lfs c && lfs d && lfsk ds
end
theorem list_text (ts : List Str) : (listText ts).length ≤ piled ts + 2 := by
  unfold listText
  rw [strLen_append]
  have e1 : ((("]" : String) : Str)).length = 1 := rfl
  rw [e1]
  cases ts with
  | nil =>
    show (("[" : String) : Str).length + 1 ≤ _
    have : ((("[" : String) : Str)).length = 1 := rfl
    omega
  | cons t r =>
    have h := textFrom_length_pos r 1 (("[" : Str) ++ (if (0 : Nat) > 0 then ", " else "" : String) ++ t) (Nat.succ_pos 0)
    have e : ((("[" : Str) ++ (if (0 : Nat) > 0 then ", " else "" : String) ++ t)).length = 1 + t.length := by
      rw [strLen_append, strLen_append]
      rfl
    have hy : (textFrom 0 "[" (t :: r)).length = (textFrom 1 (("[" : Str) ++ (if (0 : Nat) > 0 then ", " else "" : String) ++ t) r).length := rfl
    rw [hy, h, e, piled_cons]
    omega
theorem dict_text (ts : List Str) : (dictText ts).length ≤ piled ts + 2 := by
  unfold dictText
  rw [strLen_append, strLen_append]
  have e1 : ((("}" : String) : Str)).length = 1 := rfl
  have e2 : ((("{" : String) : Str)).length = 1 := rfl
  rw [e1, e2]
  by_cases h : ts = []
  · subst h
    have : (Str.join ", " []).length = 0 := by decide +kernel
    rw [this]
    omega
  · have := join_length_add ts h
    omega
theorem colon_len (a b : Str) : (a ++ ": " ++ b).length = a.length + 2 + b.length := by
  rw [strLen_append, strLen_append]
  rfl
mutual
theorem shown_le : ∀ d : PyData, lfs d = true → d.shown.length ≤ wt d
  | .none, _ => by
    simp only [PyData.shown, wt]
    decide +kernel
  | .bool b, _ => by
    simp only [PyData.shown, wt]
    cases b <;> decide +kernel
  | .int i, h => by
    have h' : i.natAbs < 10 ^ 42 := of_decide_eq_true (by simpa only [lfs] using h)
    simp only [PyData.shown, wt]
    have := int_text_length_le10 (a := i) (k := 42) (by decide) h'
    have e : (Str.ofString (toString i)).length = (toString i).length := by
      exact PySem.ofString_length _
    show (Str.ofString (toString i)).length ≤ 44
    omega
  | .str x, _ => by
    simp only [PyData.shown, wt]
    exact Nat.le_refl _
  | .list ds, h => by
    have ih := shown_les ds (by simpa only [lfs] using h)
    simp only [PyData.shown, wt]
    have := list_text (PyData.shownAll ds)
    omega
  | .tuple ds, h => by
    have ih := shown_les ds (by simpa only [lfs] using h)
    simp only [PyData.shown, wt]
    have := fmt_text (PyData.shownAll ds)
    omega
  | .dict ds, h => by
    have ih := shown_lek ds (by simpa only [lfs] using h)
    simp only [PyData.shown, wt]
    have := dict_text (PyData.shownKv ds)
    omega
theorem shown_les : ∀ ds : List PyData, lfss ds = true → piled (PyData.shownAll ds) ≤ wts ds
  | [], _ => by
    simp only [PyData.shownAll, wts]
    exact Nat.le_refl _
  | d :: ds, h => by
    have h' : lfs d = true ∧ lfss ds = true := by simpa only [lfss, Bool.and_eq_true] using h
    have h1 := shown_le d h'.1
    have h2 := shown_les ds h'.2
    simp only [PyData.shownAll, wts, piled_cons]
    omega
theorem shown_lek : ∀ ds : List (PyData × PyData), lfsk ds = true → piled (PyData.shownKv ds) ≤ wtk ds
  | [], _ => by
    simp only [PyData.shownKv, wtk]
    exact Nat.le_refl _
  | (c, d) :: ds, h => by
    have h' : (lfs c = true ∧ lfs d = true) ∧ lfsk ds = true := by simpa only [lfsk, Bool.and_eq_true] using h
    have h0 := shown_le c h'.1.1
    have h1 := shown_le d h'.1.2
    have h2 := shown_lek ds h'.2
    simp only [PyData.shownKv, wtk, piled_cons, colon_len]
    omega
end
mutual
theorem showable_of : ∀ d : PyData, lfs d = true → d.showable = true
  | .none, _ => by simp only [PyData.showable]
  | .bool b, _ => by simp only [PyData.showable]
  | .str b, _ => by simp only [PyData.showable]
  | .int i, h => by
    have h' : i.natAbs < 10 ^ 42 := of_decide_eq_true (by simpa only [lfs] using h)
    simp only [PyData.showable]
    by_cases hz : i.natAbs = 0
    · rw [hz]
      decide +kernel
    · have : i.natAbs.log2 < 140 := (Nat.log2_lt hz).mpr (Nat.lt_of_lt_of_le h' (by decide +kernel))
      exact decide_eq_true (by omega)
  | .list ds, h => by
    simp only [PyData.showable]
    exact showables_of ds (by simpa only [lfs] using h)
  | .tuple ds, h => by
    simp only [PyData.showable]
    exact showables_of ds (by simpa only [lfs] using h)
  | .dict ds, h => by
    simp only [PyData.showable]
    exact showablek_of ds (by simpa only [lfs] using h)
theorem showables_of : ∀ ds : List PyData, lfss ds = true → PyData.showableAll ds = true
  | [], _ => by simp only [PyData.showableAll]
  | d :: ds, h => by
    have h' : lfs d = true ∧ lfss ds = true := by simpa only [lfss, Bool.and_eq_true] using h
    simp only [PyData.showableAll, showable_of d h'.1, showables_of ds h'.2, Bool.and_self]
theorem showablek_of : ∀ ds : List (PyData × PyData), lfsk ds = true → PyData.showableKv ds = true
  | [], _ => by simp only [PyData.showableKv]
  | (c, d) :: ds, h => by
    have h' : (lfs c = true ∧ lfs d = true) ∧ lfsk ds = true := by simpa only [lfsk, Bool.and_eq_true] using h
    simp only [PyData.showableKv, showable_of c h'.1.1, showable_of d h'.1.2, showablek_of ds h'.2, Bool.and_self]
end
/-- all that repr wants -/
structure Nice (d : PyData) (n : Nat) : Prop where
  lf : lfs d = true
  nd : (!d.hasDict || bare d) = true
  dp : d.depth ≤ 10
  sz : wt d ≤ n
theorem Nice.ok {d : PyData} {n : Nat} (h : Nice d n) (hn : n ≤ 1000000) : okShow d = true := by
  have h1 := shown_le d h.lf
  have h2 := h.sz
  have h3 := h.dp
  unfold okShow
  rw [showable_of d h.lf, decide_eq_true (show d.depth ≤ 60 by omega), show szOk d.shown.length = true from decide_eq_true (by omega)]
  rfl
theorem Nice.mono {d : PyData} {n m : Nat} (h : Nice d n) (hn : n ≤ m) : Nice d m := ⟨h.lf, h.nd, h.dp, Nat.le_trans h.sz hn⟩
/-- repr(a) == repr(b), data that is one -/
theorem same_ok {d : PyData} {a b : Sv} {μ : Mu} (h : okShow d = true) (ha : rd a μ = some (.ok d μ)) (hb : rd b μ = some (.ok d μ)) : Fsame [a, b] μ = some (.ok (.dat (.bool true)) μ) := by
  refine strip_rt (ret_gives ?_)
  have r1 : callV bRepr (argC (slot 0) argN) [some a, some b] μ = some (.ok (.dat (.str d.shown)) μ) := by
    simp only [callV, bRepr, argC, argN, slot, M.bind, ret_at, List.getElem?_cons_zero, ha, h, if_true]
  have r2 : callV bRepr (argC (slot 1) argN) [some a, some b] μ = some (.ok (.dat (.str d.shown)) μ) := by
    simp only [callV, bRepr, argC, argN, slot, M.bind, ret_at, List.getElem?_cons_zero, List.getElem?_cons_succ, hb, h, if_true]
  show bin pEq _ _ [some a, some b] μ = _
  rw [bin_at r1 r2]
  simp only [pEqn, ret_at, decide_true, Bool.false_xor]
/-- repr(x) of a slot -/
theorem repr_at {d : PyData} {s : Sv} {F : Rho → M Sv} {ρ : Rho} {μ μ1 : Mu} (e : F ρ μ = some (.ok s μ1)) (hr : rd s μ1 = some (.ok d μ1)) (h : okShow d = true) : callV bRepr (argC F argN) ρ μ = some (.ok (.dat (.str d.shown)) μ1) := by
  simp only [callV, bRepr, argC, argN, M.bind, ret_at, e, hr, h, if_true]
theorem ne_text {x : Str} {μ : Mu} : pNe (.dat (.str x)) (.dat (.str x)) μ = some (.ok (.dat (.bool false)) μ) := by
  simp only [pEqn, ret_at, decide_true, Bool.true_xor, Bool.not_true]
/-! ### trees are nice -/
theorem wts_le {n : Nat} : ∀ {ds : List PyData}, (∀ d ∈ ds, wt d ≤ n) → wts ds ≤ (n + 2) * ds.length
  | [], _ => Nat.zero_le _
  | d :: ds, h => by
    have h1 := h d List.mem_cons_self
    have h2 := wts_le (ds := ds) fun d hd => h d (List.mem_cons_of_mem _ hd)
    simp only [wts, List.length_cons, Nat.mul_succ]
    omega
theorem lfss_of : ∀ {ds : List PyData}, (∀ d ∈ ds, lfs d = true) → lfss ds = true
  | [], _ => by simp only [lfss]
  | d :: ds, h => by
    simp only [lfss, h d List.mem_cons_self, lfss_of (ds := ds) fun d hd => h d (List.mem_cons_of_mem _ hd), Bool.and_self]
theorem nodict_of : ∀ {ds : List PyData}, (∀ d ∈ ds, d.hasDict = false) → PyData.hasDictAll ds = false
  | [], _ => by simp only [PyData.hasDictAll]
  | d :: ds, h => by
    simp only [PyData.hasDictAll, h d List.mem_cons_self, nodict_of (ds := ds) fun d hd => h d (List.mem_cons_of_mem _ hd), Bool.or_self]
theorem depth_of {n : Nat} : ∀ {ds : List PyData}, (∀ d ∈ ds, d.depth ≤ n) → PyData.depthAll ds ≤ n
  | [], _ => by simp only [PyData.depthAll]; exact Nat.zero_le _
  | d :: ds, h => by
    have h1 := h d List.mem_cons_self
    have h2 := depth_of (ds := ds) fun d hd => h d (List.mem_cons_of_mem _ hd)
    simp only [PyData.depthAll]
    omega
/-- no dict within: data by parts -/
structure Fine (d : PyData) (n k : Nat) : Prop where
  lf : lfs d = true
  nd : d.hasDict = false
  dp : d.depth ≤ k
  sz : wt d ≤ n
theorem Fine.nice {d : PyData} {n k : Nat} (h : Fine d n k) (hk : k ≤ 10) : Nice d n := ⟨h.lf, by rw [h.nd]; rfl, Nat.le_trans h.dp hk, h.sz⟩
theorem Fine.up {d : PyData} {n k n' k' : Nat} (h : Fine d n k) (hn : n ≤ n') (hk : k ≤ k') : Fine d n' k' := ⟨h.lf, h.nd, Nat.le_trans h.dp hk, Nat.le_trans h.sz hn⟩
theorem Fine.int {i : Int} (h : i.natAbs < 10 ^ 42) : Fine (.int i) 44 0 := ⟨by simp only [lfs]; exact decide_eq_true h, by simp only [PyData.hasDict], by simp only [PyData.depth]; exact Nat.le_refl _, by simp only [wt]; exact Nat.le_refl _⟩
theorem Fine.list {ds : List PyData} {n k : Nat} (h : ∀ d ∈ ds, Fine d n k) : Fine (.list ds) ((n + 2) * ds.length + 2) (k + 1) :=
  ⟨by simp only [lfs]; exact lfss_of fun d hd => (h d hd).lf, by simp only [PyData.hasDict]; exact nodict_of fun d hd => (h d hd).nd, by simp only [PyData.depth]; exact Nat.succ_le_succ (depth_of fun d hd => (h d hd).dp),
    by simp only [wt]; exact Nat.add_le_add_right (wts_le fun d hd => (h d hd).sz) 2⟩
theorem Fine.tuple {ds : List PyData} {n k : Nat} (h : ∀ d ∈ ds, Fine d n k) : Fine (.tuple ds) ((n + 2) * ds.length + 3) (k + 1) :=
  ⟨by simp only [lfs]; exact lfss_of fun d hd => (h d hd).lf, by simp only [PyData.hasDict]; exact nodict_of fun d hd => (h d hd).nd, by simp only [PyData.depth]; exact Nat.succ_le_succ (depth_of fun d hd => (h d hd).dp),
    by simp only [wt]; exact Nat.add_le_add_right (wts_le fun d hd => (h d hd).sz) 3⟩
theorem TreeOk.at_ {rows : List (Int × Int)} (h : TreeOk rows) {r : Int × Int} (hr : r ∈ rows) : 0 ≤ r.1 ∧ r.1 ≤ rows.length ∧ 1 ≤ r.2 ∧ r.2 ≤ 1000000 := by
  obtain ⟨k, e⟩ := List.getElem?_of_mem hr
  have := h k r e
  have hk := (List.getElem?_eq_some_iff.mp e).1
  omega
theorem tree_fine {rows : List (Int × Int)} (h : TreeOk rows) (hl : rows.length ≤ 100) : Fine (treeD rows) 10000 2 := by
  have hr : ∀ d ∈ rows.map rowD, Fine d 95 1 := fun d hd => by
    obtain ⟨r, hr, rfl⟩ := List.mem_map.mp hd
    have b := h.at_ hr
    refine Fine.tuple (n := 44) (k := 0) fun d hd => ?_
    rcases List.mem_cons.mp hd with rfl | hd
    · exact .int (Nat.lt_trans (show r.1.natAbs < 1000 by omega) (by decide +kernel))
    · rcases List.mem_cons.mp hd with rfl | hd
      · exact .int (Nat.lt_trans (show r.2.natAbs < 10000000 by omega) (by decide +kernel))
      · cases hd
  refine (Fine.tuple hr).up ?_ (Nat.le_refl _)
  rw [List.length_map]
  omega
end Pf

namespace Pf
open PySem PySem.Spec PyProof.Rows L2
/-! ### pure promises -/
open Classical in
noncomputable def pureF {α : Type} (enc : α → List Sv) (ok : α → Prop) (out : α → PyData) (ss : List Sv) : M Sv := fun μ => if h : ∃ x, ss = enc x ∧ ok x then some (.ok (.dat (out h.choose)) μ) else none
section
variable {α : Type} {enc : α → List Sv} {ok : α → Prop} {out : α → PyData}
theorem pureF_eq (inj : ∀ x y, enc x = enc y → x = y) {x : α} (h : ok x) (μ : Mu) : pureF enc ok out (enc x) μ = some (.ok (.dat (out x)) μ) := by
  unfold pureF
  have hx : ∃ y, enc x = enc y ∧ ok y := ⟨x, rfl, h⟩
  rw [dif_pos hx, ← inj _ _ hx.choose_spec.1]
theorem pureF_inv {ss : List Sv} {μ : Mu} {r : Res Sv} (h : pureF enc ok out ss μ = some r) : ∃ x, ss = enc x ∧ ok x ∧ r = .ok (.dat (out x)) μ := by
  unfold pureF at h
  split at h
  · rename_i hx
    cases h
    exact ⟨_, hx.choose_spec.1, hx.choose_spec.2, rfl⟩
  · cases h
theorem same_pure {N n : Nat} {G : Rho → M Out} (h : ∀ x μ, ok x → ∃ g, G (ini N (enc x)) μ = some (.ok (.rt (.dat (out x))) (μ ++ g))) (ss : List Sv) (μ : Mu) (r : Res Sv) (_ : ss.length = n) (wf : Wf μ) (e : pureF enc ok out ss μ = some r) :
    ∃ r', G (ini N ss) μ = some r' ∧ Agree μ.length r r' := by
  obtain ⟨x, rfl, hx, rfl⟩ := pureF_inv e
  obtain ⟨g, eg⟩ := h x μ hx
  exact ⟨_, eg, rfl, ⟨g, rfl⟩, wf, Nat.le_refl _, trivial⟩
end
theorem treeD_inj {a b : List (Int × Int)} (h : treeD a = treeD b) : a = b := by
  have h1 : a.map rowD = b.map rowD := PyData.tuple.inj h
  have inj : ∀ {x y : Int × Int}, rowD x = rowD y → x = y := fun {x y} e => by
    have := PyData.tuple.inj e
    simp at this
    exact Prod.ext this.1 this.2
  induction a generalizing b with
  | nil =>
    cases b with
    | nil => rfl
    | cons y r => cases h1
  | cons x a ih =>
    cases b with
    | nil => cases h1
    | cons y r =>
      rw [List.map_cons, List.map_cons] at h1
      have h2 := (List.cons.inj h1).1
      have h3 := (List.cons.inj h1).2
      rw [inj h2, ih (b := r) (by unfold treeD; rw [h3]) h3]
/-! ### loops by an invariant -/
theorem loop_inv {T : Sv → Rho → M Rho} {B : Rho → M Out} (I : Nat → Rho → Mu → Prop) : ∀ (ds : List PyData) (k : Nat) (ρ : Rho) (μ : Mu), (∀ i d ρ μ, ds[i]? = some d → I (k + i) ρ μ → ∃ ρ1 μ1 ρ2 μ2, T (.dat d) ρ μ = some (.ok ρ1 μ1) ∧ (B ρ1 μ1 = some (.ok (.nx ρ2) μ2) ∨ B ρ1 μ1 = some (.ok (.ct ρ2) μ2)) ∧ I (k + i + 1) ρ2 μ2) → I k ρ μ →
    ∃ ρ' μ', loopG T B ds ρ μ = some (.ok (.nx ρ') μ') ∧ I (k + ds.length) ρ' μ'
  | [], k, ρ, μ, _, h => ⟨ρ, μ, rfl, h⟩
  | d :: ds, k, ρ, μ, st, h => by
    obtain ⟨ρ1, μ1, ρ2, μ2, e1, e2, h2⟩ := st 0 d ρ μ rfl h
    obtain ⟨ρ', μ', e3, h3⟩ := loop_inv I ds (k + 1) ρ2 μ2 (fun i d ρ μ hd hi => by
      have a1 : k + 1 + i = k + (i + 1) := by omega
      rw [a1] at hi ⊢
      exact st (i + 1) d ρ μ (by simpa using hd) hi) h2
    refine ⟨ρ', μ', ?_, ?_⟩
    · rcases e2 with e2 | e2
      · simp only [loopG, M.bind, e1, e2]
        exact e3
      · simp only [loopG, M.bind, e1, e2]
        exact e3
    · have a1 : k + (d :: ds).length = k + 1 + ds.length := by
        rw [List.length_cons]
        omega
      rw [a1]
      exact h3
theorem for_inv {Fi : Rho → M (List PyData)} {T : Sv → Rho → M Rho} {B : Rho → M Out} (I : Nat → Rho → Mu → Prop) {ds : List PyData} {ρ : Rho} {μ μ0 : Mu} (e : Fi ρ μ = some (.ok ds μ0))
    (st : ∀ i d ρ μ, ds[i]? = some d → I i ρ μ → ∃ ρ1 μ1 ρ2 μ2, T (.dat d) ρ μ = some (.ok ρ1 μ1) ∧ (B ρ1 μ1 = some (.ok (.nx ρ2) μ2) ∨ B ρ1 μ1 = some (.ok (.ct ρ2) μ2)) ∧ I (i + 1) ρ2 μ2) (h0 : I 0 ρ μ0) :
    ∃ ρ' μ', gFor Fi T B ρ μ = some (.ok (.nx ρ') μ') ∧ I ds.length ρ' μ' := by
  obtain ⟨ρ', μ', e1, h1⟩ := loop_inv (T := T) (B := B) I ds 0 ρ μ0 (fun i d ρ μ hd hi => by
    rw [Nat.zero_add] at hi ⊢
    exact st i d ρ μ hd hi) h0
  refine ⟨ρ', μ', ?_, by simpa using h1⟩
  unfold gFor
  rw [bind_ok e]
  exact e1
theorem fromTo_at {lo : Int} {n i : Nat} {d : PyData} (h : (fromTo lo n)[i]? = some d) : i < n ∧ d = .int (lo + (i : Nat)) := by
  unfold fromTo at h
  have hi : i < n := by
    have := (List.getElem?_eq_some_iff.mp h).1
    simpa using this
  rw [List.getElem?_map, List.getElem?_range hi] at h
  exact ⟨hi, (Option.some.inj h).symm⟩
theorem fromTo_len (lo : Int) (n : Nat) : (fromTo lo n).length = n := by simp [fromTo]
theorem fromTo_mem {lo : Int} {n : Nat} {d : PyData} (h : d ∈ fromTo lo n) : ∃ k : Nat, k < n ∧ d = .int (lo + (k : Nat)) := by
  obtain ⟨k, hk, rfl⟩ := List.mem_map.mp h
  exact ⟨k, List.mem_range.mp hk, rfl⟩
theorem big62_small {i : Int} (h0 : -1000000000 ≤ i) (h1 : i ≤ 1000000000) : big62 i = true := by
  unfold big62
  rw [decide_eq_true (show -(2 ^ 62) ≤ i by omega), decide_eq_true (show i < 2 ^ 62 by omega)]
  rfl
theorem rng_at {F : Rho → M Sv} {ρ : Rho} {μ μ1 : Mu} {i : Int} (e : F ρ μ = some (.ok (svI i) μ1)) (h0 : -1000000000 ≤ i) (h1 : i ≤ 1000000000) : rngV F ρ μ = some (.ok (fromTo 0 i.toNat) μ1) := by
  unfold rngV
  rw [bind_ok e]
  simp only [asI, M.bind, ret_at, iteM, big62_small h0 h1, if_true]
/-! ### two tagged lists behind the rest -/
section
variable {μ : Mu} {x y z : MObj}
theorem g0 : (μ ++ [x, y])[μ.length]? = some x := by
  rw [List.getElem?_append_right (Nat.le_refl _), Nat.sub_self]
  rfl
theorem g1 : (μ ++ [x, y])[μ.length + 1]? = some y := by
  rw [List.getElem?_append_right (Nat.le_succ _), show μ.length.succ - μ.length = 1 by omega]
  rfl
theorem s0 : (μ ++ [x, y]).set μ.length z = μ ++ [z, y] := by
  rw [List.set_append_right _ _ (Nat.le_refl _), Nat.sub_self]
  rfl
theorem s1 : (μ ++ [x, y]).set (μ.length + 1) z = μ ++ [x, z] := by
  rw [List.set_append_right _ _ (Nat.le_succ _), show μ.length.succ - μ.length = 1 by omega]
  rfl
theorem a0 : (μ ++ [x])[μ.length]? = some x := by
  rw [List.getElem?_append_right (Nat.le_refl _), Nat.sub_self]
  rfl
theorem al : (μ ++ [x]).length = μ.length + 1 := by simp
theorem aa : (μ ++ [x]) ++ [y] = μ ++ [x, y] := by simp
theorem b0 : (μ ++ [x]).set μ.length z = μ ++ [z] := by
  rw [List.set_append_right _ _ (Nat.le_refl _), Nat.sub_self]
  rfl
end
/-! ### marks, ways, distances -/
def mrk (k : Nat) : Sv := svI (k : Int)
def mkD (k : Nat) : PyData := .int (k : Int)
def par (rows : List (Int × Int)) (m : Nat) : Nat := ((rows[m - 1]?).getD (0, 0)).1.toNat
def lnR (rows : List (Int × Int)) (m : Nat) : Int := ((rows[m - 1]?).getD (0, 0)).2
theorem row_of {rows : List (Int × Int)} (ok : TreeOk rows) {m : Nat} (h0 : 0 < m) (h1 : m ≤ rows.length) : ∃ r, rows[m - 1]? = some r ∧ r.1 = (par rows m : Nat) ∧ r.2 = lnR rows m ∧ par rows m < m ∧ 1 ≤ lnR rows m ∧ lnR rows m ≤ 1000000 := by
  have hm : m - 1 < rows.length := by omega
  have e : rows[m - 1]? = some rows[m - 1] := List.getElem?_eq_getElem hm
  have b := ok _ _ e
  refine ⟨_, e, ?_, ?_, ?_, ?_, ?_⟩
  · unfold par
    rw [e]
    show _ = ((rows[m - 1].1.toNat : Nat) : Int)
    omega
  · unfold lnR
    rw [e]
    rfl
  · unfold par
    rw [e]
    show rows[m - 1].1.toNat < m
    omega
  · unfold lnR
    rw [e]
    exact b.2.2.1
  · unfold lnR
    rw [e]
    exact b.2.2.2
/-- tree[m - 1] -/
theorem tree_row {rows : List (Int × Int)} {m : Nat} {r : Int × Int} (h0 : 0 < m) (e : rows[m - 1]? = some r) (μ : Mu) : pIx (.dat (treeD rows)) (svI ((m : Int) - 1)) μ = some (.ok (.dat (rowD r)) μ) := by
  have e2 : (rows.map rowD)[m - 1]? = some (rowD r) := by
    rw [List.getElem?_map, e]
    rfl
  have e3 : atI (rows.map rowD) ((m : Int) - 1) = some (rowD r) := by
    have := atI_nat e2
    rw [show ((m - 1 : Nat) : Int) = (m : Int) - 1 by omega] at this
    exact this
  show M.bind (orFail (atI (rows.map rowD) ((m : Int) - 1))) _ μ = _
  rw [e3]
  rfl
theorem row_0 (r : Int × Int) (μ : Mu) : pIx (.dat (rowD r)) (svI 0) μ = some (.ok (svI r.1) μ) := rfl
theorem row_1 (r : Int × Int) (μ : Mu) : pIx (.dat (rowD r)) (svI 1) μ = some (.ok (svI r.2) μ) := rfl
def wayF (rows : List (Int × Int)) : Nat → Nat → Nat → List Nat
  | 0, a, _ => [a]
  | n + 1, a, b => if a = b then [a] else if b < a then a :: wayF rows n (par rows a) b else wayF rows n a (par rows b) ++ [b]
def distF (rows : List (Int × Int)) : Nat → Nat → Nat → Int
  | 0, _, _ => 0
  | n + 1, a, b => if a = b then 0 else if b < a then lnR rows a + distF rows n (par rows a) b else distF rows n a (par rows b) + lnR rows b
def way (rows : List (Int × Int)) (a b : Nat) : List Nat := wayF rows (a + b + 1) a b
def dist (rows : List (Int × Int)) (a b : Nat) : Int := distF rows (a + b + 1) a b
section
variable {rows : List (Int × Int)} (ok : TreeOk rows)
include ok
theorem wayF_way : ∀ (n a b : Nat), a + b < n → a ≤ rows.length → b ≤ rows.length → wayF rows n a b = way rows a b := by
  have key : ∀ (n m a b : Nat), a + b < n → a + b < m → a ≤ rows.length → b ≤ rows.length → wayF rows n a b = wayF rows m a b := by
    intro n
    induction n with
    | zero => intro m a b h; omega
    | succ n ih =>
      intro m a b h h2 ha hb
      cases m with
      | zero => omega
      | succ m =>
        unfold wayF
        by_cases e : a = b
        · rw [if_pos e, if_pos e]
        · rw [if_neg e, if_neg e]
          by_cases l : b < a
          · rw [if_pos l, if_pos l]
            obtain ⟨r, _, _, _, hp, _⟩ := row_of ok (m := a) (by omega) ha
            rw [ih m (par rows a) b (by omega) (by omega) (by omega) hb]
          · rw [if_neg l, if_neg l]
            obtain ⟨r, _, _, _, hp, _⟩ := row_of ok (m := b) (by omega) hb
            rw [ih m a (par rows b) (by omega) (by omega) ha (by omega)]
  exact fun n a b h ha hb => key n _ a b h (Nat.lt_succ_self _) ha hb
theorem distF_dist : ∀ (n a b : Nat), a + b < n → a ≤ rows.length → b ≤ rows.length → distF rows n a b = dist rows a b := by
  have key : ∀ (n m a b : Nat), a + b < n → a + b < m → a ≤ rows.length → b ≤ rows.length → distF rows n a b = distF rows m a b := by
    intro n
    induction n with
    | zero => intro m a b h; omega
    | succ n ih =>
      intro m a b h h2 ha hb
      cases m with
      | zero => omega
      | succ m =>
        unfold distF
        by_cases e : a = b
        · rw [if_pos e, if_pos e]
        · rw [if_neg e, if_neg e]
          by_cases l : b < a
          · rw [if_pos l, if_pos l]
            obtain ⟨r, _, _, _, hp, _⟩ := row_of ok (m := a) (by omega) ha
            rw [ih m (par rows a) b (by omega) (by omega) (by omega) hb]
          · rw [if_neg l, if_neg l]
            obtain ⟨r, _, _, _, hp, _⟩ := row_of ok (m := b) (by omega) hb
            rw [ih m a (par rows b) (by omega) (by omega) ha (by omega)]
  exact fun n a b h ha hb => key n _ a b h (Nat.lt_succ_self _) ha hb
theorem way_eq {a : Nat} : way rows a a = [a] := by
  unfold way wayF
  rw [if_pos rfl]
theorem way_gt {a b : Nat} (h : b < a) (ha : a ≤ rows.length) : way rows a b = a :: way rows (par rows a) b := by
  obtain ⟨r, _, _, _, hp, _⟩ := row_of ok (m := a) (by omega) ha
  rw [← wayF_way ok (a + b) (par rows a) b (by omega) (by omega) (by omega)]
  unfold way
  rw [wayF, if_neg (by omega), if_pos h]
theorem way_lt {a b : Nat} (h : a < b) (hb : b ≤ rows.length) : way rows a b = way rows a (par rows b) ++ [b] := by
  obtain ⟨r, _, _, _, hp, _⟩ := row_of ok (m := b) (by omega) hb
  rw [← wayF_way ok (a + b) a (par rows b) (by omega) (by omega) (by omega)]
  unfold way
  rw [wayF, if_neg (by omega), if_neg (by omega)]
theorem dist_eq {a : Nat} : dist rows a a = 0 := by
  unfold dist distF
  rw [if_pos rfl]
theorem dist_gt {a b : Nat} (h : b < a) (ha : a ≤ rows.length) : dist rows a b = lnR rows a + dist rows (par rows a) b := by
  obtain ⟨r, _, _, _, hp, _⟩ := row_of ok (m := a) (by omega) ha
  rw [← distF_dist ok (a + b) (par rows a) b (by omega) (by omega) (by omega)]
  unfold dist
  rw [distF, if_neg (by omega), if_pos h]
theorem dist_lt {a b : Nat} (h : a < b) (hb : b ≤ rows.length) : dist rows a b = dist rows a (par rows b) + lnR rows b := by
  obtain ⟨r, _, _, _, hp, _⟩ := row_of ok (m := b) (by omega) hb
  rw [← distF_dist ok (a + b) a (par rows b) (by omega) (by omega) (by omega)]
  unfold dist
  rw [distF, if_neg (by omega), if_neg (by omega)]
theorem dist_comm : ∀ (n a b : Nat), a + b < n → a ≤ rows.length → b ≤ rows.length → dist rows a b = dist rows b a := by
  intro n
  induction n with
  | zero => intro a b h; omega
  | succ n ih =>
    intro a b h ha hb
    rcases Nat.lt_trichotomy a b with l | l | l
    · obtain ⟨r, _, _, _, hp, _⟩ := row_of ok (m := b) (by omega) hb
      rw [dist_lt ok l hb, dist_gt ok l hb, ih a (par rows b) (by omega) ha (by omega), Int.add_comm]
    · rw [l]
    · obtain ⟨r, _, _, _, hp, _⟩ := row_of ok (m := a) (by omega) ha
      rw [dist_lt ok l ha, dist_gt ok l ha, ih (par rows a) b (by omega) (by omega) hb, Int.add_comm]
theorem dist_bound : ∀ (n a b : Nat), a + b < n → a ≤ rows.length → b ≤ rows.length → 0 ≤ dist rows a b ∧ dist rows a b ≤ 1000000 * (a + b) := by
  intro n
  induction n with
  | zero => intro a b h; omega
  | succ n ih =>
    intro a b h ha hb
    rcases Nat.lt_trichotomy a b with l | l | l
    · obtain ⟨r, _, _, _, hp, l1, l2⟩ := row_of ok (m := b) (by omega) hb
      have := ih a (par rows b) (by omega) ha (by omega)
      rw [dist_lt ok l hb]
      omega
    · rw [l, dist_eq ok]
      omega
    · obtain ⟨r, _, _, _, hp, l1, l2⟩ := row_of ok (m := a) (by omega) ha
      have := ih (par rows a) b (by omega) (by omega) hb
      rw [dist_gt ok l ha]
      omega
theorem way_mem : ∀ (n a b : Nat), a + b < n → a ≤ rows.length → b ≤ rows.length → ∀ m ∈ way rows a b, m ≤ rows.length := by
  intro n
  induction n with
  | zero => intro a b h; omega
  | succ n ih =>
    intro a b h ha hb m hm
    rcases Nat.lt_trichotomy a b with l | l | l
    · obtain ⟨r, _, _, _, hp, _⟩ := row_of ok (m := b) (by omega) hb
      rw [way_lt ok l hb] at hm
      rcases List.mem_append.mp hm with z | z
      · exact ih a (par rows b) (by omega) ha (by omega) m z
      · rw [List.mem_singleton.mp z]
        exact hb
    · rw [l, way_eq ok] at hm
      rw [List.mem_singleton.mp hm]
      exact hb
    · obtain ⟨r, _, _, _, hp, _⟩ := row_of ok (m := a) (by omega) ha
      rw [way_gt ok l ha] at hm
      rcases List.mem_cons.mp hm with z | z
      · rw [z]
        exact ha
      · exact ih (par rows a) b (by omega) (by omega) hb m z
theorem way_len : ∀ (n a b : Nat), a + b < n → a ≤ rows.length → b ≤ rows.length → (way rows a b).length ≤ a + b + 1 ∧ ((way rows a b).head? = some a) ∧ (way rows a b).getLast? = some b := by
  intro n
  induction n with
  | zero => intro a b h; omega
  | succ n ih =>
    intro a b h ha hb
    rcases Nat.lt_trichotomy a b with l | l | l
    · obtain ⟨r, _, _, _, hp, _⟩ := row_of ok (m := b) (by omega) hb
      obtain ⟨i1, i2, i3⟩ := ih a (par rows b) (by omega) ha (by omega)
      rw [way_lt ok l hb]
      refine ⟨by rw [List.length_append, List.length_singleton]; omega, ?_, by simp⟩
      rw [List.head?_append, i2]
      rfl
    · rw [l, way_eq ok]
      refine ⟨by simp, rfl, rfl⟩
    · obtain ⟨r, _, _, _, hp, _⟩ := row_of ok (m := a) (by omega) ha
      obtain ⟨i1, i2, i3⟩ := ih (par rows a) b (by omega) (by omega) hb
      rw [way_gt ok l ha]
      refine ⟨by rw [List.length_cons]; omega, rfl, ?_⟩
      rw [List.getLast?_cons, i3]
      rfl
end
/-! ### comprehensions over data -/
theorem lcV_at {m : Bool} {vs : List Nat} {Fi : Rho → M (List PyData)} {T : Sv → Rho → M Rho} {Fe : Rho → M Sv} {ρ : Rho} {μ μ0 : Mu} {ds : List PyData} (g : PyData → Sv) (e : Fi ρ μ0 = some (.ok ds μ)) (sz : ds.length ≤ 1000000)
    (h : ∀ d ∈ ds, ∃ ρ1, T (.dat d) (wipeR ρ vs) μ = some (.ok ρ1 μ) ∧ Fe ρ1 μ = some (.ok (g d) μ)) : lcV m vs Fi T yes Fe ρ μ0 = mkl m (ds.map g) μ := by
  unfold lcV
  rw [bind_ok e]
  have z : szOk ds.length = true := decide_eq_true sz
  rw [if_pos z, bind_ok (lcL_map g h)]
theorem mkl_dat (ds : List PyData) (μ : Mu) : mkl false (ds.map Sv.dat) μ = some (.ok (.dat (.list ds)) μ) := by
  simp only [mkl, dats_map, Option.map]
theorem mkl_mapD {α : Type} (xs : List α) (f : α → PyData) (μ : Mu) : mkl false (xs.map fun x => Sv.dat (f x)) μ = some (.ok (.dat (.list (xs.map f))) μ) := by
  have := mkl_dat (xs.map f) μ
  rw [List.map_map] at this
  exact this
theorem atI_map {α β : Type} {xs : List α} {f : α → β} {i : Int} {x : α} (h : atI xs i = some x) : atI (xs.map f) i = some (f x) := by
  unfold atI at h ⊢
  rw [List.length_map]
  cases q : ixN xs.length i with
  | none =>
    rw [q] at h
    cases h
  | some j =>
    rw [q] at h
    show (xs.map f)[j]? = _
    have h' : xs[j]? = some x := h
    rw [List.getElem?_map, h']
    rfl
theorem atI_range {α : Type} {n k : Nat} (f : Nat → α) (h : k < n) : atI ((List.range n).map f) (k : Int) = some (f k) := by
  have : ((List.range n).map f)[k]? = some (f k) := by
    rw [List.getElem?_map, List.getElem?_range h]
    rfl
  exact atI_nat this
theorem cut_from1 {α : Type} (xs : List α) : cutL xs (some 1) none = xs.drop 1 := by
  unfold cutL
  rw [HT.sIx_none, show HT.sIx xs.length 0 (some 1) = min 1 xs.length from HT.sIx_nat xs.length 0 1]
  cases xs with
  | nil => rfl
  | cons x r =>
    rw [show min 1 (x :: r).length = 1 by rw [List.length_cons]; omega]
    show List.take ((x :: r).length - 1) r = r
    rw [List.length_cons, Nat.add_sub_cancel]
    exact List.take_length
/-! ### pairs on a way -/
def pairs : List Nat → List (Nat × Nat)
  | a :: b :: r => (a, b) :: pairs (b :: r)
  | _ => []
def pairD (p : Nat × Nat) : PyData := .tuple [mkD p.1, mkD p.2]
theorem zip_pairs : ∀ w : List Nat, zipD (w.map mkD) ((w.map mkD).drop 1) = (pairs w).map pairD
  | [] => rfl
  | [_] => rfl
  | a :: b :: r => by
    have ih := zip_pairs (b :: r)
    show PyData.tuple [mkD a, mkD b] :: zipD ((b :: r).map mkD) (((b :: r).map mkD).drop 1) = _
    rw [ih]
    rfl
theorem pairs_cons {a h : Nat} {w : List Nat} (e : w.head? = some h) : pairs (a :: w) = (a, h) :: pairs w := by
  cases w with
  | nil => cases e
  | cons x r =>
    cases e
    rfl
theorem pairs_snoc {b l : Nat} : ∀ {w : List Nat}, w.getLast? = some l → pairs (w ++ [b]) = pairs w ++ [(l, b)]
  | [], e => by cases e
  | [x], e => by
    cases e
    rfl
  | x :: y :: r, e => by
    have e' : (y :: r).getLast? = some l := by
      rw [List.getLast?_cons_cons] at e
      exact e
    have ih := pairs_snoc (b := b) e'
    show (x, y) :: pairs ((y :: r) ++ [b]) = (x, y) :: pairs (y :: r) ++ [(l, b)]
    rw [ih]
    rfl
theorem pairs_len : ∀ w : List Nat, (pairs w).length ≤ w.length
  | [] => Nat.le_refl _
  | [_] => Nat.zero_le _
  | a :: b :: r => Nat.succ_le_succ (pairs_len (b :: r))
def psum (rows : List (Int × Int)) (w : List Nat) : Int := ((pairs w).map fun p => lnR rows (max p.1 p.2)).sum
theorem way_pairs {rows : List (Int × Int)} (ok : TreeOk rows) : ∀ (n a b : Nat), a + b < n → a ≤ rows.length → b ≤ rows.length → (∀ p ∈ pairs (way rows a b), 0 < max p.1 p.2 ∧ max p.1 p.2 ≤ rows.length) ∧ psum rows (way rows a b) = dist rows a b := by
  intro n
  induction n with
  | zero => intro a b h; omega
  | succ n ih =>
    intro a b h ha hb
    rcases Nat.lt_trichotomy a b with l | l | l
    · obtain ⟨r, _, _, _, hp, _⟩ := row_of ok (m := b) (by omega) hb
      obtain ⟨i1, i2⟩ := ih a (par rows b) (by omega) ha (by omega)
      have ps := pairs_snoc (b := b) (way_len ok _ a (par rows b) (Nat.lt_succ_self _) ha (by omega)).2.2
      have mx : max (par rows b) b = b := by omega
      rw [way_lt ok l hb]
      refine ⟨fun p hpm => ?_, ?_⟩
      · rw [ps] at hpm
        rcases List.mem_append.mp hpm with z | z
        · exact i1 p z
        · rw [List.mem_singleton.mp z]
          show 0 < max (par rows b) b ∧ max (par rows b) b ≤ _
          omega
      · unfold psum at i2 ⊢
        rw [ps, List.map_append, List.sum_append, i2, dist_lt ok l hb]
        show dist rows a (par rows b) + (lnR rows (max (par rows b) b) + 0) = _
        rw [mx, Int.add_zero]
    · rw [l, way_eq ok, dist_eq ok]
      exact ⟨fun p hp => (nomatch hp), rfl⟩
    · obtain ⟨r, _, _, _, hp, _⟩ := row_of ok (m := a) (by omega) ha
      obtain ⟨i1, i2⟩ := ih (par rows a) b (by omega) (by omega) hb
      have ps := pairs_cons (a := a) (way_len ok _ (par rows a) b (Nat.lt_succ_self _) (by omega) hb).2.1
      have mx : max a (par rows a) = a := by omega
      rw [way_gt ok l ha]
      refine ⟨fun p hpm => ?_, ?_⟩
      · rw [ps] at hpm
        rcases List.mem_cons.mp hpm with z | z
        · rw [z]
          show 0 < max a (par rows a) ∧ max a (par rows a) ≤ _
          omega
        · exact i1 p z
      · unfold psum at i2 ⊢
        rw [ps, List.map_cons, List.sum_cons, i2, dist_gt ok l ha]
        show lnR rows (max a (par rows a)) + _ = _
        rw [mx]
/-- a promise that never holds -/
theorem gk_none {P : Program} {w : World} {K : PySem.W.Frag} {mg : Str → Option Value} {base : Heap} {CX : CXT} {k : Nat} {f : Addr} {fd : FuncData} {ps : List Str} {n : Nat} {Fm : List Sv → M Sv} (hn : ps.length = n) (h : ∀ ss μ, Fm ss μ = none) : Gk P w K mg base CX k f fd ps (spM K n Fm) :=
  ⟨fun vs H Q E z => z.1.trans hn.symm, fun A b s H ar us vs Q E _ _ _ _ _ ⟨_, W, μ, ss, r, _, _, e, _⟩ => by
    rw [h] at e
    cases e⟩
theorem pureF_none {α : Type} {enc : α → List Sv} {ok : α → Prop} {out : α → PyData} (h : ∀ x, ¬ ok x) (ss : List Sv) (μ : Mu) : pureF enc ok out ss μ = none := by
  unfold pureF
  rw [dif_neg fun ⟨x, _, z⟩ => h x z]
theorem cat_at {xs ys : List PyData} (h : xs.length + ys.length ≤ 1000000) (μ : Mu) : pAdd false (.dat (.list xs)) (.dat (.list ys)) μ = some (.ok (.dat (.list (xs ++ ys))) μ) := by
  have z : szOk (xs.length + (ys.map Sv.dat).length) = true := decide_eq_true (by rw [List.length_map]; exact h)
  have e : lsOf (.dat (.list ys)) μ = some (.ok (ys.map Sv.dat) μ) := rfl
  have u : pAdd false (.dat (.list xs)) (.dat (.list ys)) = (lsOf (.dat (.list ys))).bind fun zs => if szOk (xs.length + zs.length) = true then mkl false (xs.map Sv.dat ++ zs) else M.fail := rfl
  rw [u, bind_ok e, if_pos z, ← List.map_append, mkl_dat]
theorem lix_at {xs : List PyData} {i : Int} {d : PyData} (h : atI xs i = some d) (μ : Mu) : pIx (.dat (.list xs)) (svI i) μ = some (.ok (.dat d) μ) := by
  have e : lsOf (.dat (.list xs)) μ = some (.ok (xs.map Sv.dat) μ) := rfl
  have u : pIx (.dat (.list xs)) (svI i) = (lsOf (.dat (.list xs))).bind fun zs => orFail (atI zs i) := rfl
  rw [u, bind_ok e, show atI (xs.map Sv.dat) i = some (Sv.dat d) from atI_map h]
  rfl
theorem tix_at {xs : List PyData} {i : Int} {d : PyData} (h : atI xs i = some d) (μ : Mu) : pIx (.dat (.tuple xs)) (svI i) μ = some (.ok (.dat d) μ) := by
  have u : pIx (.dat (.tuple xs)) (svI i) = (orFail (atI xs i)).bind fun d => M.ret (.dat d) := rfl
  rw [u, h]
  rfl
theorem blen_at (xs : List PyData) (μ : Mu) : bLen [.dat (.list xs)] μ = some (.ok (svI (xs.length : Nat)) μ) := by
  have e : lsOf (.dat (.list xs)) μ = some (.ok (xs.map Sv.dat) μ) := rfl
  have u : bLen [.dat (.list xs)] = (lsOf (.dat (.list xs))).bind fun zs => M.ret (.dat (.int zs.length)) := rfl
  rw [u, bind_ok e, List.length_map]
  rfl
theorem lst1_at {F : Rho → M Sv} {ρ : Rho} {μ μ1 : Mu} {d : PyData} (e : F ρ μ = some (.ok (.dat d) μ1)) : lstV false (argC F argN) ρ μ = some (.ok (.dat (.list [d])) μ1) := by
  unfold lstV argC argN
  simp only [M.bind, ret_at, e]
  rfl
theorem lst2_at {F G : Rho → M Sv} {ρ : Rho} {μ μ1 μ2 : Mu} {d e : PyData} (e1 : F ρ μ = some (.ok (.dat d) μ1)) (e2 : G ρ μ1 = some (.ok (.dat e) μ2)) : lstV false (argC F (argC G argN)) ρ μ = some (.ok (.dat (.list [d, e])) μ2) := by
  unfold lstV argC argN
  simp only [M.bind, ret_at, e1, e2]
  rfl
theorem skip_at {F : Rho → M Bool} {G : Rho → M Out} {ρ : Rho} {μ μ' : Mu} (h : F ρ μ = some (.ok false μ')) : gIf F G gSkip ρ μ = some (.ok (.nx ρ) μ') := by
  rw [if_f h]
  rfl
theorem not_at {F : Rho → M Bool} {ρ : Rho} {μ μ' : Mu} {b : Bool} (h : F ρ μ = some (.ok b μ')) : notT F ρ μ = some (.ok (!b) μ') := by
  unfold notT
  rw [bind_ok h]
  rfl
theorem or_f {F G : Rho → M Bool} {ρ : Rho} {μ μ1 : Mu} (h : F ρ μ = some (.ok false μ1)) : orT F G ρ μ = G ρ μ1 := by
  unfold orT
  rw [bind_ok h]
  rfl
theorem tst_at {F : Rho → M Sv} {ρ : Rho} {μ μ1 : Mu} {b : Bool} (h : F ρ μ = some (.ok (.dat (.bool b)) μ1)) : tst F ρ μ = some (.ok b μ1) := by
  unfold tst
  rw [bind_ok h]
  rfl
theorem call1_at {Fm : List Sv → M Sv} {F : Rho → M Sv} {ρ : Rho} {μ μ1 : Mu} {a : Sv} (h : F ρ μ = some (.ok a μ1)) : callF Fm 1 (argC F argN) ρ μ = Fm [a] μ1 := by
  unfold callF argC argN
  simp only [M.bind, ret_at, h]
  rfl
theorem call2_at {Fm : List Sv → M Sv} {F G : Rho → M Sv} {ρ : Rho} {μ μ1 μ2 : Mu} {a b : Sv} (h : F ρ μ = some (.ok a μ1)) (h2 : G ρ μ1 = some (.ok b μ2)) : callF Fm 2 (argC F (argC G argN)) ρ μ = Fm [a, b] μ2 := by
  unfold callF argC argN
  simp only [M.bind, ret_at, h, h2]
  rfl
theorem call3_at {Fm : List Sv → M Sv} {F G H : Rho → M Sv} {ρ : Rho} {μ μ1 μ2 μ3 : Mu} {a b c : Sv} (h : F ρ μ = some (.ok a μ1)) (h2 : G ρ μ1 = some (.ok b μ2)) (h3 : H ρ μ2 = some (.ok c μ3)) : callF Fm 3 (argC F (argC G (argC H argN))) ρ μ = Fm [a, b, c] μ3 := by
  unfold callF argC argN
  simp only [M.bind, ret_at, h, h2, h3]
  rfl
theorem callV1_at {op : List Sv → M Sv} {F : Rho → M Sv} {ρ : Rho} {μ μ1 : Mu} {a : Sv} (h : F ρ μ = some (.ok a μ1)) : callV op (argC F argN) ρ μ = op [a] μ1 := by
  unfold callV argC argN
  simp only [M.bind, ret_at, h]
theorem par_at {i j : Nat} {F G : Rho → M Sv} {ρ : Rho} {μ μ1 μ2 : Mu} {a b : Sv} (h : F ρ μ = some (.ok a μ1)) (h2 : G ρ μ1 = some (.ok b μ2)) : gPar i j (argC F (argC G argN)) ρ μ = some (.ok (.nx ((ρ.set i (some a)).set j (some b))) μ2) := by
  unfold gPar argC argN
  simp only [M.bind, ret_at, h, h2]
/-- twice the same -/
theorem twice {F : Rho → M Sv} {ρ : Rho} {μ : Mu} {d : PyData} {k : Nat} (h : ∀ s, F ((wipeR ρ [k]).set k (some s)) μ = some (.ok (.dat d) μ)) : lcV false [k] (rngV (con (.int 2))) (gNm k) yes F ρ μ = some (.ok (.dat (.list [d, d])) μ) := by
  rw [lcV_at (fun _ => .dat d) (ds := fromTo 0 2) rfl (by decide) fun e _ => ⟨_, rfl, h (.dat e)⟩]
  rfl
end Pf

namespace Pf
open PySem PySem.Spec PyProof.Rows L2 HT
/-! ### t[::-1] of a tuple -/
section
variable {prog : Program} {w : World} {A : Around} {E : Value → Shared → Prop} {s : Shared}
theorem adj_rev (n : Nat) : Builtin.Slice.sliceAdjust none none (-1) (n : Int) = ((n : Int) - 1, -1) := by
  unfold Builtin.Slice.sliceAdjust
  simp
theorem plc_rev (n : Nat) : Builtin.Slice.slicePlaces ((n : Int) - 1) (-1) (-1) = n := by
  unfold Builtin.Slice.slicePlaces
  simp
  try omega
theorem apl_rev {sl : Addr} {n : Nat} {t : Tok} {Q : Int × Int × Nat → Shared → Prop} (hs : s.heap.IsSliceOf sl .none .none (.int (-1) t)) (h : Q ((n : Int) - 1, -1, n) s) : wpAny (model prog w) A (Builtin.Slice.sliceApplied (.ref sl) (pure (n : Int))) Q E s := by
  obtain ⟨ob, e1, e2, e3⟩ := id hs
  unfold Builtin.Slice.sliceApplied Builtin.Slice.sliceFields
  refine wpAny_bind (wpAny_bind (wpAny_field e1 e3 (x := .none) rfl (wpAny_bind (wpAny_field e1 e3 (x := .none) rfl (wpAny_bind (wpAny_field e1 e3 (x := .int (-1) t) rfl (wpAny_pure ?_)))))))
  refine wpAny_bind (slicePart_ (.int (-1) t) ?_)
  show wpAny _ _ (if ((-1 : Int) == 0) = true then _ else _) _ _ s
  rw [if_neg (by decide)]
  refine wpAny_bind (slicePart_ .none (wpAny_bind (slicePart_ .none (wpAny_bind (wpAny_pure ?_)))))
  show wpAny _ _ (match Builtin.Slice.sliceAdjust none none (-1) (n : Int) with | (lo, hi) => pure (lo, (-1 : Int), Builtin.Slice.slicePlaces lo hi (-1))) _ _ s
  rw [adj_rev]
  show wpAny _ _ (pure ((n : Int) - 1, (-1 : Int), Builtin.Slice.slicePlaces ((n : Int) - 1) (-1) (-1))) _ _ s
  rw [plc_rev]
  exact wpAny_pure h
theorem fm_congr {α β : Type} {f g : α → Option β} : ∀ {l : List α}, (∀ k ∈ l, f k = g k) → l.filterMap f = l.filterMap g
  | [], _ => rfl
  | k :: l, h => by
    rw [List.filterMap_cons, List.filterMap_cons, h k List.mem_cons_self, fm_congr (l := l) fun j hj => h j (List.mem_cons_of_mem _ hj)]
theorem pick_rev (xs : Array Value) : ((List.range xs.size).filterMap fun (k : Nat) => xs[(((xs.size : Int) - 1) + (k : Int) * (-1)).toNat]?).toArray = xs.toList.reverse.toArray := by
  have := PySem.W.krv_all xs
  rw [← this, ← List.filterMap_reverse, ← PySem.W.krv_range, List.filterMap_map]
  congr 1
  refine fm_congr fun k hk => ?_
  have hk' := List.mem_range.mp hk
  show _ = xs[xs.size - 1 - k]?
  congr 1
  omega
theorem get_rev {t sl : Addr} {items : Array Value} {tk : Tok} {Q : Value → Shared → Prop} (ht : IsTup s.heap t items) (hs : s.heap.IsSliceOf sl .none .none (.int (-1) tk))
    (h : Q (.ref s.heap.objs.size) { s with heap := s.heap.push { cls := .type "tuple", data := .seq items.toList.reverse.toArray } }) (hsz : items.size ≤ sizeLine) : wpAny (model prog w) A (getItem (.ref t) (.ref sl)) Q E s := by
  have hdrop : sizeOk (.seq items.toList.reverse.toArray) := by
    show items.toList.reverse.toArray.size ≤ sizeLine
    rw [List.size_toArray, List.length_reverse, Array.length_toList]
    exact hsz
  obtain ⟨ob, e1, e2, e3⟩ := id hs
  have ty : s.TypeIs (.ref sl) "slice" := ⟨ob, e1, e2⟩
  unfold getItem
  try with_reducible refine wpAny_holding ?_
  first
    | refine wpAny_bind (wpAny_pure ?_)
    | skip
  refine wpAny_bind (wpAny_sequenceKey ht.typeIs (by decide) (wpAny_bind (wpAny_callSpecial?_slot (name := Str.ofString "__getitem__") ht.typeIs PyProof.Rows.slot_tuple_getitem (wpAny_call_entry PyProof.Rows.slot_tuple_getitem ht.typeIs entry_tuple_getitem ?_ (args_tuple_getitem _ _)))))
  show wpAny _ _ (Builtin.Tuple.tupleItemsOf (.ref t) >>= _) _ _ s
  refine wpAny_bind (tupleItemsOf_ ht (wpAny_bind (wpAny_typeOf ty ?_)))
  rw [if_pos (by decide)]
  refine wpAny_bind (apl_rev hs ?_)
  have hno : ¬ ((((items.size : Int) - 1) == 0 && (-1 : Int) == 1 && items.size == items.size) = true) := by simp
  show wpAny _ _ (if (((items.size : Int) - 1) == 0 && (-1 : Int) == 1 && items.size == items.size) = true then _ else _) _ _ s
  rw [if_neg hno, pick_rev items]
  first
    | exact wpAny_bind (m := Builtin.Tuple.tupleExact _) (wpAny_newObj_type (wpAny_pure ⟨_, rfl, wpAny_pure h⟩) hdrop)
    | exact wpAny_bind (m := Builtin.Tuple.tupleExact _) (wpAny_newObj_type (wpAny_bind (wpAny_pure (wpAny_pure ⟨_, rfl, wpAny_pure h⟩))) hdrop)
    | exact wpAny_bind (wpAny_bind (m := Builtin.Tuple.tupleExact _) (wpAny_newObj_type (wpAny_pure (wpAny_pure ⟨_, rfl, wpAny_pure h⟩)) hdrop))
    | exact wpAny_bind (wpAny_bind (m := Builtin.Tuple.tupleExact _) (wpAny_newObj_type (wpAny_pure ⟨_, rfl, wpAny_pure h⟩) hdrop))
end
section
variable {X : Cx} {E : XK} {a b c e : Expr} {Fa Fb Fc : Rho → M Sv} {pos p : Pos}
def tRevT (K : PySem.W.Frag) (te : TE) : TE := fun σ H Q => te σ H fun x H1 => ∃ a xs, x = .ref a ∧ SqT K H1 a xs ∧ ∀ p, H1 p = none → Q (.ref p) (upd H1 p (.tup xs.reverse))
theorem pe_revT {te : TE} {k : Nat} {p1 p2 p3 : Pos} (he : PE X e te) : PE X (.Subscript e (.Slice none none (some (.UnaryOp .USub (.Constant (.int 1) k p1) p2)) p3) pos) (tRevT X.K te) := by
  constructor
  intro pins s σ H Q I h
  refine Subscript_ (thn (he.run pins s σ H _ I h) fun v s1 ⟨x, H1, I1, r1, a, xs, ex, hx, q⟩ => ?_)
  subst ex
  cases r1
  have step : PO X (some (.UnaryOp .USub (.Constant (.int 1) k p1) p2)) (tPart (tUn (rU fun i => .int (-i)) (tC (.int 1)))) := po_some (pe_un un_neg pe_int)
  refine wpAny_Slice (thn (po_none.run pins s1 σ H1 (fun o Hx => o = none ∧ Hx = H1) I1 ⟨rfl, rfl⟩) fun vl s2 ⟨l, H2, I2, pl, z1, z2⟩ => ?_)
  subst z1 z2
  refine thn (po_none.run pins s2 σ H2 (fun o Hx => o = none ∧ Hx = H2) I2 ⟨rfl, rfl⟩) fun vu s3 ⟨u, H3, I3, pu, z1, z2⟩ => ?_
  subst z1 z2
  refine thn (step.run pins s3 σ H3 (fun o Hx => o = some (-1) ∧ Hx = H3) I3 ⟨1, rfl, -1, rfl, rfl, rfl⟩) fun vs s4 ⟨o, H4, I4, ps, z1, z2⟩ => ?_
  subst z1 z2
  have I5 : Inv X pins σ H4 { s4 with heap := s4.heap.push { cls := .type "slice", data := .fields #[vl, vu, vs] } } := I4.kept (t' := s4.toks) fun b ob q => Heap.get?_push_of_some _ q
  obtain ⟨its, r, ht, hz⟩ := I5.tuple hx
  have ln := r.length
  show wpAny (model X.prog X.w) X.A (subscriptTail e (.Slice none none (some (.UnaryOp .USub (.Constant (.int 1) k p1) p2)) p3) (.ref a) (.ref s4.heap.objs.size)) (EP X pins σ Q) X.xe { s4 with heap := s4.heap.push { cls := .type "slice", data := .fields #[vl, vu, vs] } }
  cases pl
  cases pu
  cases ps
  refine tail_any (ops := [.ref a, .ref s4.heap.objs.size]) ht.typeIs PyProof.Rows.slot_tuple_getitem.lookup ?_ (by with_unfolding_all rfl)
  refine get_rev ht (Heap.IsSliceOf.new _ _ _ _) ?_ (by rw [List.size_toArray]; omega)
  exact ⟨.ref _, _, I5.laid (t' := s4.toks) (o := .tup xs.reverse) (fun b ob q => Heap.get?_push_of_some _ q) (Nat.le_refl _) ⟨by rw [List.length_reverse]; exact hz, _, r.reverse, IsTup.new _ _⟩, rfl, q _ (I5.hok.fresh (Nat.le_refl _))⟩
def revTV (Fa : Rho → M Sv) (ρ : Rho) : M Sv := (Fa ρ).bind fun s => match s with
  | .dat (.tuple ds) => M.ret (.dat (.tuple ds.reverse))
  | _ => M.fail
theorem x_revT {k : Nat} {p1 p2 p3 : Pos} (he : PX X E a Fa) : PX X E (.Subscript a (.Slice none none (some (.UnaryOp .USub (.Constant (.int 1) k p1) p2)) p3) pos) (revTV Fa) := pe_weak (pe_revT he) fun σ H Q ⟨W, ρ, μ, r, h, e, q⟩ => by
  refine tX_bind h e q fun v s W1 H1 μ1 g1 h1 rs e1 q1 => ?_
  split at e1
  · cases e1
    cases rs with
    | tup h4 r4 => exact ⟨_, _, rfl, seqT_mono h1.rel.sub h4, fun p hp => dq_tup h1.rel hp r4.reverse rfl q1⟩
  · cases e1
/-! ### int(a bool) -/
def bInt (ss : List Sv) : M Sv := match ss with
  | [.dat (.bool b)] => M.ret (.dat (.int (if b = true then 1 else 0)))
  | _ => M.fail
theorem b_int : CallR X (.type "int") (rC X.K E bInt) := by
  intro pins s σ H xs us Q I rv ⟨W, μ, ss, r, R, rs, e, q⟩
  unfold bInt at e
  split at e
  · cases e
    obtain ⟨x, rfl, h⟩ := rels1 rs
    obtain ⟨u, rfl, rx⟩ := vals1 rv
    cases h
    cases (show u = Value.bool _ from rx)
    exact call_int_bool ⟨.int _, H, I.tok _, ⟨_, rfl⟩, q _ _ (Grow.refl _ _ _) R _ (.int _)⟩
  · cases e
/-! ### dicts -/
theorem x_dict0 : PX X E (.Dict [] [] pos) (con (.dict [])) := pe_weak pe_dnewK fun σ H Q ⟨W, ρ, μ, r, h, e, q⟩ p hp => by
  cases e
  exact q _ _ (grow_share h.rel hp) (h.rel.share hp) _ (.dct upd_same .nil)
theorem x_dict1 {x : Str} {i : Int} {j1 j2 : Nat} {p1 p2 : Pos} : PX X E (.Dict [some (.Constant (.str x) j1 p1)] [.Constant (.int i) j2 p2] pos) (con (.dict [(.str x, .int i)])) :=
  pe_weak (pe_disp (pps_cons pe_str pe_int pps_nil) rfl rfl (by simp) (show 1 ≤ 15 by decide)) fun σ H Q ⟨W, ρ, μ, r, h, e, q⟩ p hp => by
    cases e
    refine ⟨upd_same, [(.inr x, .int i)], rfl, show 1 ≤ 15 by decide, ?_⟩
    have : upd (upd H p (.dK [])) p (.dK (mergeK [] [(.inr x, .int i)])) = upd H p (.dK [(.inr x, .int i)]) := by
      funext b
      by_cases hb : b = p
      · rw [hb, upd_same, upd_same]
        rfl
      · rw [upd_ne hb, upd_ne hb, upd_ne hb]
    rw [this]
    exact q _ _ (grow_share h.rel hp) (h.rel.share hp) _ (.dct upd_same (.cons (.str x) (.int i) .nil))
/-! ### enumerate(a tuple) -/
def Itet (K : PySem.W.Frag) (a : Addr) : It :=
  ⟨fun i H => ∃ (xs : List V) (x : V), SqT K H a xs ∧ xs[i]? = some x,
    fun i H v H' => ∃ T x, v = .ref T ∧ H T = none ∧ H' = upd H T (.tup [.int (i : Nat), x]) ∧ ∀ ys, SqT K H a ys → ys[i]? = some x,
    fun i H => ∃ ys : List V, SqT K H a ys ∧ ys.length ≤ i⟩
theorem turn_enumT {P : Program} {w : World} {K : PySem.W.Frag} {elts : List Expr} {kk : Nat} {tpos : Pos} (a e it : Addr) (n1 : e ≠ it) (n2 : a ≠ it) (n3 : e ≠ a) :
    Turn P w K (.Tuple elts kk tpos) (Itet K a) [e, it] e (fun i h => (∃ old, IsEnum h e it ((i : Nat) : Int) old) ∧ h.IsTupleIter it a i) where
  mem := by simp
  obj := fun i h ⟨⟨old, he⟩, ⟨o, ho, hc, hd⟩⟩ b hb => by
    rcases List.mem_cons.mp hb with z | z
    · rw [z]
      exact ⟨_, he, fun v q => nomatch q⟩
    · rw [List.mem_singleton.mp z]
      exact ⟨o, ho, fun v q => by rw [hd] at q; cases q⟩
  keep := fun i h h' ⟨⟨old, he⟩, hi⟩ k => ⟨⟨old, k e (by simp) _ he⟩, hi.at fun o q => k it (by simp) o q⟩
  item := by
    intro X hP hw hK hc i pins s σ H E I hf ⟨⟨old, he⟩, hit⟩ ⟨xs, x, hq, hx⟩
    subst hP hw hK
    obtain ⟨its, rv, p, hz⟩ := I.tuple hq
    obtain ⟨u, hu, ru⟩ := rv.get hx
    have hel : e < s.heap.objs.size := Heap.lt_size he
    have hil : it < s.heap.objs.size := let ⟨_, q, _⟩ := hit; Heap.lt_size q
    have hh : X.A.in1.handled = none := I.ok.hd hc
    have D := Draws.tuple (prog := X.prog) (w := X.w) (A := X.A.in1) hh it a n2 its.toArray
    have hi : i < its.toArray.size := by
      rw [List.size_toArray]
      exact (List.getElem?_eq_some_iff.mp hu).1
    refine wpAny_pyNext_enum_itemD D he ⟨hit, p⟩ hi n1 (by simp [n1, n3]) fun y h' tk hy ho ⟨hit', _⟩ hT hsz hk => ?_
    have ey : y = u := by
      have z : its.toArray[i]? = some u := by simpa using hu
      exact Option.some.inj (hy.symm.trans z)
    subst ey
    refine ⟨_, rfl, wpAny_letOwnedTupleGo_enum (s := { s with heap := h', toks := tk + 1 }) ho fun h'' he' sb => ?_⟩
    have hT2 : h''.get? s.heap.objs.size = some { cls := .type "tuple", data := .seq #[.int i tk, y] } := (sb.2 _ (Nat.ne_of_gt hel)).trans hT
    have new : ObjOk X.prog X.w (upd H s.heap.objs.size (.tup [.int (i : Nat), x])) h'' s.heap.objs.size (.tup [.int (i : Nat), x]) := by
      refine ⟨?_, [.int i tk, y], .cons ⟨_, rfl⟩ (.cons ru .nil), ⟨_, hT2, rfl, _, rfl⟩⟩
      show 2 ≤ sizeLine
      decide
    have I1 : Inv X pins σ (upd H s.heap.objs.size (.tup [.int (i : Nat), x])) { s with heap := h'', toks := tk + 1 } := by
      refine I.turnedNew (ch := [e, it]) (fun b ob hb q => ?_) hf (Nat.le_refl _) new
      have b1 : b ≠ e := fun z => hb (by simp [z])
      have b2 : b ≠ it := fun z => hb (by simp [z])
      exact (sb.2 b b1).trans (hk b ob b1 b2 q)
    refine ⟨.ref s.heap.objs.size, _, I1, rfl, ⟨_, x, rfl, I.hok.fresh (Nat.le_refl _), rfl, fun ys hy => by rw [I.tuple_inj hy hq]; exact hx⟩, ⟨⟨y, ?_⟩, hit'.at fun o q => (sb.2 it (Ne.symm n1)).trans q⟩, fun b hb => ?_⟩
    · rw [show ((i + 1 : Nat) : Int) = (i : Int) + 1 from by omega]
      exact he'
    · have hb' : b < s.heap.objs.size := by
        rcases List.mem_cons.mp hb with z | z
        · rw [z]
          exact hel
        · rw [List.mem_singleton.mp z]
          exact hil
      rw [upd_ne (Nat.ne_of_lt hb')]
      exact (hf b hb).1
  done := by
    intro X hP hw hK hc i pins s σ H E I hf ⟨⟨old, he⟩, hit⟩ ⟨xs, hq, hx⟩
    subst hP hw hK
    obtain ⟨its, rv, p, hz⟩ := I.tuple hq
    obtain ⟨f0, f1, f2, f3, f4, f5⟩ := hf it (by simp)
    have hl := rv.length
    have hT : s.TypeIs (.ref e) "enumerate" := ⟨_, he, rfl⟩
    unfold pyNext
    refine wpAny_bind (wpAny_attempt (wpAny_callSpecial?_slot (name := Str.ofString "__next__") hT F.slot_enumerate_next (wpAny_call_entry F.slot_enumerate_next hT F.entry_enumerate_next ?_ (F.args_enumerate_next_1 _))))
    show wpAny _ _ (field (.ref e) 2 >>= _) _ _ _
    refine wpAny_bind (wpAny_field he rfl (x := .ref it) rfl (wpAny_bind (wpAny_nextOf_tuple_end (I.ok.hd hc) hit p (by simp; omega) fun h' y eb ⟨o, ho, hcl⟩ => ?_)))
    exact wpAny_bind (wpAny_isInstance (T := "StopIteration") (b := true) ⟨o, ho, hcl⟩ isSubtype_stop (wpAny_pure ⟨rfl, I.turned (t' := s.toks) (fun b o hb q => eb b o hb q) f0 f1 f3 f4 f5⟩))
  self := fun A i s Q E ⟨⟨_, he⟩, _⟩ h => wpAny_pyIter_enum he h
end
set_option maxHeartbeats 1000000 in
theorem meets_enumT (t : Addr) (items : Array Value) : Meets (Builtin.«enumerate.__new__» ⟨[.type "enumerate", .ref t], []⟩) (fun _ R s => s.heap.IsTuple t items ∧
      R (.ok (.ret (.ref (s.heap.push { cls := .type "tuple_iterator", data := .fields #[.ref t, .int 0 0] }).objs.size)))
        { s with heap := (s.heap.push { cls := .type "tuple_iterator", data := .fields #[.ref t, .int 0 0] }).push { cls := .type "enumerate", data := .fields #[.none, .bool false, .ref s.heap.objs.size, rawInt 0, .none, .none] } }) :=
  .of_wp fun prog w A R s h => by
    obtain ⟨hp, g, d, tk, os⟩ := s
    obtain ⟨h1, h⟩ := h
    have sub := sub_enumerate
    have B := begins_tuple t items
    have q1 : ∀ {A' : Around} {E : Value → Shared → Prop} {Q : Value → Shared → Prop}, Q (.ref hp.objs.size) ⟨hp.push { cls := .type "tuple_iterator", data := .fields #[.ref t, .int 0 0] }, g, d, tk, os⟩ → wpAny (model prog w) A' (pyIter (.ref t)) Q E ⟨hp, g, d, tk, os⟩ :=
      fun q => B.iter prog w _ _ ⟨hp, g, d, tk, os⟩ _ h1 q
    wp_walk using q1
    refine wpAny_stack_any fun st => wpAny_pure ?_
    split
    · rename_i c _ _ _ _ _
      cases (c == Value.type "enumerate")
      · (wp_walk using q1); exact ⟨_, rfl, h⟩
      · (wp_walk using q1); exact ⟨_, rfl, h⟩
    · (wp_walk using q1); exact ⟨_, rfl, h⟩
section
variable {prog : Program} {w : World} {A : Around} {E : Value → Shared → Prop} {s : Shared}
theorem call_enumT {t : Addr} {items : Array Value} {Q : Value → Shared → Prop} (h1 : s.heap.IsTuple t items)
    (h : ∀ h', IsEnum h' (s.heap.objs.size + 1) s.heap.objs.size 0 .none → h'.IsTupleIter s.heap.objs.size t 0 → (∀ b o, s.heap.get? b = some o → h'.get? b = some o) → Q (.ref (s.heap.objs.size + 1)) { s with heap := h' }) :
    wpAny (model prog w) A (call (.type "enumerate") [.ref t]) Q E s := by
  have M := meets_enumT t items
  have C := @callType_new
  refine callType_new F.called_enumerate (by decide) (F.typeCall_enumerate_1 _) (F.newCall_enumerate_1 _) (fun obj => F.args_object_init_2 obj _) F.entry_enumerate_new M ⟨h1, ?_⟩
  have hz : (s.heap.push { cls := .type "tuple_iterator", data := .fields #[.ref t, .int 0 0] }).objs.size = s.heap.objs.size + 1 := Heap.size_push ..
  show _ ∧ _
  rw [hz]
  have he : IsEnum ((s.heap.push { cls := .type "tuple_iterator", data := .fields #[.ref t, .int 0 0] }).push { cls := .type "enumerate", data := .fields #[.none, .bool false, .ref s.heap.objs.size, rawInt 0, .none, .none] }) (s.heap.objs.size + 1) s.heap.objs.size 0 .none := by
    have z := Heap.get?_push_size (s.heap.push { cls := .type "tuple_iterator", data := .fields #[.ref t, .int 0 0] }) (o := { cls := .type "enumerate", data := .fields #[.none, .bool false, .ref s.heap.objs.size, rawInt 0, .none, .none] }) rfl
    rw [hz] at z
    exact z
  exact ⟨⟨_, he, rfl⟩, h _ he ⟨_, Heap.get?_push_of_some _ (Heap.get?_push_size _ rfl), rfl, rfl⟩ fun b o x => Heap.get?_push_of_some _ (Heap.get?_push_of_some _ x)⟩
end
section
variable {X : Cx} {E : XK} {a b c e : Expr} {Fa Fb Fc : Rho → M Sv} {pos p tpos : Pos}
def iEnumT (K : PySem.W.Frag) (ta : TA) : TI := fun σ H R => ta σ H fun vs H1 => ∃ a xs, vs = [.ref a] ∧ SqT K H1 a xs ∧ R (Itet K a) H1
theorem pi_enumT {ta : TA} {elts : List Expr} {kk : Nat} (hg : Gl X "enumerate") (hm : X.mg "enumerate" = none) (ha : PA X [e] ta) (hs : starEach [e] X.env = [(false, eval e X.env)] := by rfl) :
    PI X (.Tuple elts kk tpos) (.Call (.Name "enumerate" p) [e] [] pos) (iEnumT X.K ta) := by
  constructor
  intro pins s σ H R I h
  refine Call_ (ld_blt I hg hm boot_enumerate (PyProof.Rows.callWith_type1 (thn (ha.run pos pins s σ H _ I h) fun us s1 ⟨vs, H1, I1, r1, a, xs, ex, hq, q⟩ => ?_) hs rfl))
  subst ex
  obtain ⟨u, rfl, rx⟩ := vals1 r1
  cases rx
  obtain ⟨its, rv, p', hz⟩ := I1.tuple hq
  have hal : a < s1.heap.objs.size := let ⟨_, z, _⟩ := p'; Heap.lt_size z
  refine call_enumT p' fun h' he hit hk => wpAny_pyIter_enum he ?_
  refine ⟨s1.heap.objs.size + 1, [s1.heap.objs.size + 1, s1.heap.objs.size], _, _, H1, rfl, I1.kept (t' := s1.toks) hk, turn_enumT a (s1.heap.objs.size + 1) s1.heap.objs.size (Nat.succ_ne_self _) (Nat.ne_of_lt hal) (Nat.ne_of_gt (Nat.lt_succ_of_lt hal)), ⟨⟨.none, he⟩, hit⟩, fun b hb => ?_, q⟩
  have hle : s1.heap.objs.size ≤ b := by
    rcases List.mem_cons.mp hb with z | z
    · rw [z]
      exact Nat.le_succ _
    · rw [List.mem_singleton.mp z]
      exact Nat.le_refl _
  exact I1.fpOk hle (I1.hok.fresh hle)
def enuD (ds : List PyData) : List PyData := zipD (fromTo 0 ds.length) ds
theorem enu_len {ds : List PyData} : (enuD ds).length = ds.length := by
  unfold enuD zipD fromTo
  rw [List.length_zipWith, List.length_map, List.length_range, Nat.min_self]
theorem enu_at {ds : List PyData} {i : Nat} {d : PyData} (h : (enuD ds)[i]? = some d) : ∃ x, ds[i]? = some x ∧ d = .tuple [.int (i : Nat), x] := by
  obtain ⟨d1, d2, e1, e2, rfl⟩ := zip_at h
  obtain ⟨_, rfl⟩ := fromTo_at e1
  exact ⟨d2, e2, by rw [Int.zero_add]⟩
theorem wk_enu {K : PySem.W.Frag} {W : Wd} {a : Addr} {vs : List V} {ds : List PyData} (h : SqT K W.S a vs) (r : Dqs K W.S vs ds) : Wk K (Itet K a) W (enuD ds) where
  go := fun i d W1 H μ g R e => by
    obtain ⟨y, e2, rfl⟩ := enu_at e
    obtain ⟨v, a1, _⟩ := r.getD e2
    exact ⟨vs, v, seqT_mono R.sub (seqT_mono g h), a1⟩
  yld := fun i d W1 H μ x H' g R e y => by
    obtain ⟨z, e2, rfl⟩ := enu_at e
    obtain ⟨T, x1, rfl, nT, rfl, f1⟩ := y
    obtain ⟨v, a1, q1⟩ := r.getD e2
    have z1 := f1 vs (seqT_mono R.sub (seqT_mono g h))
    rw [a1] at z1
    cases z1
    exact pair_new R nT (.int _) (Dq.mono g q1)
  stop := fun i W1 H μ g R e => ⟨vs, seqT_mono R.sub (seqT_mono g h), by rw [r.len, ← enu_len]; exact e⟩
def enuV (Fa : Rho → M Sv) (ρ : Rho) : M (List PyData) := (Fa ρ).bind fun s => match s with
  | .dat (.tuple ds) => M.ret (enuD ds)
  | _ => M.fail
theorem i_enu {elts : List Expr} {kk : Nat} (hc : X.calm = true) (hm : X.mg "enumerate" = none) (ha : PX X E a Fa) (hg : Gl X "enumerate" := by rfl) (hs : starEach [a] X.env = (false, eval a X.env) :: starEach [] X.env := by rfl) (hs2 : starEach [a] X.env = [(false, eval a X.env)] := by rfl) :
    PIX X E (.Tuple elts kk tpos) (.Call (.Name "enumerate" p) [a] [] pos) (enuV Fa) := pi_weak (pi_enumT hg hm (pa_cons ha pa_nil hs) hs2) fun σ H R ⟨W, ρ, μ, r, h, e, q⟩ => by
  refine tX_bind h e q fun v s W1 H1 μ1 g1 h1 rs e1 q1 => ?_
  split at e1
  · cases e1
    cases rs with
    | tup z1 y1 => exact ⟨_, _, rfl, seqT_mono h1.rel.sub z1, q1 _ _ (Grow.refl _ _ _) h1.rel _ (wk_enu z1 y1)⟩
  · cases e1
end
end Pf

namespace Pf
open PySem PySem.Spec PyProof.Rows L2
/-! ### an error of the program's own, with one field -/
section
open PySem.W PySem.Calls PySem.HandSPX
def tlArgs (a b : Pos) : Arguments := { vararg := none, kwarg := none, posonlyargs := [], kwonlyargs := [], kw_defaults := [], defaults := [], args := [{ arg := "self", annotation := none, pos := a }, { arg := "bound", annotation := none, pos := b }] }
def tlBody (a b c d : Pos) : List Stmt := [.Assign [.Attribute (.Name "self" a) "bound" b] (.Name "bound" c) d]
def tlScope : Scope := { isGenerator := false, isCoroutine := false, more := [], kind := .function, names := [(PySem.Str.ofString "self", .local), (PySem.Str.ofString "bound", .local)] }
/-- what stands of TooLarge, at C, its __init__ at f -/
structure TL (K : Frag) (mg : Str → Option Value) (C f : Addr) : Prop where
  nC : nsIn K mainGlobals "TooLarge" = some (some (.ref C))
  gC : mg "TooLarge" = some (.ref C)
  ob : ∃ nm q N bs bm sn sub ab col dd m0 m1 m2 m3 m5, K.lookup C = some (excClassObj nm q C N bs bm true sn sub ab col dd m0 m1 m2 m3 m5 "ValueError.__new__") ∧ refsVE bm = true
  f_set : findIn K (.ref C) "__setattr__" = some (some (.builtin "object.__setattr__"))
  f_get : findIn K (.ref C) "__getattribute__" = some (some (.builtin "BaseException.__getattribute__"))
  f_at : findIn K (.ref C) "__getattr__" = some none
  f_fld : findIn K (.ref C) "bound" = some none
  f_ini : findIn K (.ref C) "__init__" = some (some (.ref f))
  f_cls : findIn K (.ref C) "__class__" = some (some (.builtin "object.__class__"))
  s_get : specialIn K (.builtin "object.__class__") "__get__" = some (some (.builtin "getset_descriptor.__get__"))
  tk : takesIn K (.builtin "object.__class__") = some true
  mro : mroIn K C (.type "object") = some true
  tyF : typeIn K (.ref f) = some (.type "function")
  kp : keepIn K (.ref C) = true
  sub : subIn K (.ref C) (.type "BaseException") = some true
  tyC : typeIn K (.ref C) = some (.type "type")
  dct : hasDictIn K C = true
  fn : ∃ (oc : Value) (od : Option Addr) (kV doc pm : Value) (an : Option Addr) (cdv ct : Value) (osl : Array (Option Value)) (p1 p2 q1 q2 q3 q4 : Pos),
    K.lookup f = some ⟨oc, od, .func (fnOf "__init__" "TooLarge.__init__" (tlArgs p1 p2) (tlBody q1 q2 q3 q4) tlScope .none kV doc pm an cdv ct), osl⟩ ∧ codeIn K cdv "TooLarge.__init__" = true
theorem sz_one (v : Value) : [v].length ≤ sizeLine := by
  rw [sizeLine_eq]
  show 1 ≤ 16777216
  decide
theorem ld_param {M : Model} {s : Shared} {nm : Str} {sc : Scope} {L a : Addr} {cdv : Value} {m : Str → Option Value} {y : Str} {pos : Pos} {v : Value} {Q : Value → Shared → Prop} {A : Around} {E : Value → Shared → Prop} (hn : s.heap.Ns L m) (hv : m y = some v) (h : Q v s)
    (hk : sc.kind = .function := by rfl) (hl : (envOfC nm sc L a cdv).kindOf y = some .local := by rfl) (hd : (y == ("__debug__" : Str)) = false := by decide) : wpAny M A (eval (.Name y pos) (envOfC nm sc L a cdv)) Q E s := by
  refine wpAny_Name (wpAny_loadName_local hk hl hn hv h) hd
/-- behind __init__ -/
structure TlEnd (h h' : Heap) (x C dx t1 : Addr) (v : Value) : Prop where
  rest : ∀ b o, b ≠ x → h.get? b = some o → h'.get? b = some o
  self : h'.get? x = some { cls := .ref C, data := .fields #[.ref t1, .none, .none, .none, .bool false, .none], dict := some dx }
  late : h.objs.size ≤ dx
  apart : dx ≠ x
  fld : h'.Ns1 dx (fun y => if y = "bound" then some v else none)
/-- behind the making -/
structure TlMade (h h' : Heap) (e C d : Addr) (v : Value) : Prop where
  rest : ∀ b o, h.get? b = some o → h'.get? b = some o
  new : h.objs.size ≤ e
  self : ∃ oe vs, h'.get? e = some oe ∧ oe.cls = .ref C ∧ oe.dict = some d ∧ oe.data = .fields vs ∧ vs[1]? = some .none
  late : h.objs.size ≤ d
  apart : d ≠ e
  fld : h'.Ns1 d (fun y => if y = "bound" then some v else none)
variable {prog : Program} {w : World} {A : Around} {E : Value → Shared → Prop} {R : Result → Shared → Prop} {s : Shared} {K : Frag} {mg : Str → Option Value} {C f : Addr}
theorem tl_init (T : TL K mg C f) {x t0 : Addr} {v : Value} (X : K.In s.heap) (lim : s.heap.NoLimit) (hx : s.heap.get? x = some (excO C t0)) (room : A.depth < recursionLimit)
    (fin : ∀ h' tk dx, TlEnd s.heap h' x C dx t0 v → R (.ok (.ret .none)) { s with heap := h', toks := tk }) : codeAny (model prog w) A (.call (.ref f) ⟨[.ref x, v], []⟩) R s := by
  obtain ⟨oc, od, kV, doc, pm, an, cdv, ct, osl, p1, p2, q1, q2, q3, q4, ho, hcd⟩ := T.fn
  obtain ⟨nm, q, N, bs, bm, sn, sub, ab, col, dd, m0, m1, m2, m3, m5, hC, hbm⟩ := T.ob
  have cd : clsIn K C = some { name := nm, bases := bs, mro := .ref C :: bm, ns := N, qualname := q, hasDict := true, slotNames := sn, subclasses := sub, abstract := ab, collection := col, hasDel := false } := by
    unfold clsIn
    rw [hC] <;> rfl
  refine Att.call_fn (binds := [("self", .ref x), ("bound", v)]) X lim ho hcd room (BindsTo.of_eq (by first | rfl | with_unfolding_all rfl)) (by first | rfl | decide | with_unfolding_all rfl) (fun s₁ ic => ?_) rfl rfl rfl
  obtain ⟨h₁, tk₁, rfl⟩ := ic.toInCall.same
  have keep := ic.toInCall.keep
  have ns := ic.toInCall.ns
  have X₁ : K.In h₁ := X.keeps keep
  have hx₁ := keep _ _ hx
  show wpAny _ _ (execs _ _) _ _ _
  refine wpAny_execs_cons (plainObj_wpAny_Assign_Attribute (ld_param (v := v) ns (by first | rfl | with_unfolding_all rfl | kernel_rfl) (ld_param (v := .ref x) ns (by first | rfl | with_unfolding_all rfl | kernel_rfl) ?_)))
  refine set_plain X₁ (ox := excO C t0) (od := none) ⟨hx₁, rfl, rfl, trivial⟩ T.f_set (exc_osa X₁ hx₁ cd (show refsVE (.ref C :: bm) = true from hbm) rfl T.f_fld (fun h₃ tk₃ dx k₃ dn dne hx₃ hn₃ => ?_))
  have lt : s.heap.objs.size < h₁.objs.size := ns.lt
  show wpAny _ _ (execs _ _) _ _ _
  exact wpAny_execs_nil (fin h₃ tk₃ dx ⟨fun b o hb e => k₃ b o hb (keep b o e), hx₃, Nat.le_of_lt (Nat.lt_of_lt_of_le lt dn), dne, hn₃⟩)
theorem tl_made (T : TL K mg C f) {v : Value} (X : K.In s.heap) (lim : s.heap.NoLimit) (room : A.depth + 1 < recursionLimit) (fin : ∀ h' tk e d, TlMade s.heap h' e C d v → R (.ok (.ret (.ref e))) { s with heap := h', toks := tk }) :
    codeAny (model prog w) A (.call (.ref C) ⟨[v], []⟩) R s := by
  obtain ⟨nm, q, N, bs, bm, sn, sub, ab, col, dd, m0, m1, m2, m3, m5, hC, hbm⟩ := T.ob
  obtain ⟨hp, g, dr, tk, os⟩ := s
  have keep : ∀ b o, hp.get? b = some o → ((hp.push (kdv_tup [v])).push (excO C hp.objs.size)).get? b = some o := fun b o e => Heap.get?_push_of_some _ (Heap.get?_push_of_some _ e)
  have at_ : ((hp.push (kdv_tup [v])).push (excO C hp.objs.size)).get? (hp.objs.size + 1) = some (excO C hp.objs.size) := by heap_get
  refine call_own F.excBase_ValueError (fun Y => refsVE_contains Y bm hbm) (X _ _ hC) (looks_findIn X T.f_ini) (fun self => bind_fn X self T.tyF) (sz_one v) ?_
  refine tl_init (s := ⟨(hp.push (kdv_tup [v])).push (excO C hp.objs.size), g, dr, tk, os⟩) T (X.keeps keep) (lim.keeps keep) at_ (show A.depth + 1 < recursionLimit from room) fun h' tk' dx ⟨k', hx, dn, dne, hns⟩ => ?_
  have old : ∀ b o, hp.get? b = some o → h'.get? b = some o := fun b o e => k' b o (Nat.ne_of_lt (Nat.lt_succ_of_lt (Heap.lt_size e))) (keep b o e)
  have z : hp.objs.size + 1 + 1 ≤ dx := by
    first
      | (simpa only [Heap.size_push] using dn)
      | exact dn
      | (have q := dn; rw [Heap.size_push, Heap.size_push] at q; exact q)
  refine ⟨rfl, fin h' tk' (hp.objs.size + 1) dx ⟨old, Nat.le_succ _, ⟨_, _, hx, rfl, rfl, rfl, rfl⟩, Nat.le_trans (Nat.le_trans (Nat.le_succ _) (Nat.le_succ _)) z, dne, hns⟩⟩
end
theorem rel_bound {v : V} {v' : Value} (r : RelV v v') (g : Str) : RelO (List.lookup g [(("bound" : Str), v)]) (if g = "bound" then some v' else none) := by
  by_cases h : g = "bound"
  · subst h
    rw [if_pos rfl, show List.lookup ("bound" : Str) [(("bound" : Str), v)] = some v by simp [List.lookup]]
    exact r
  · rw [if_neg h, show List.lookup g [(("bound" : Str), v)] = none by
      have n : (g == ("bound" : Str)) = false := by simpa using h
      simp [List.lookup, n]]
    trivial
section
variable {X : Cx} {E : XK} {C f : Addr} {k : Nat} {a e : Expr} {es : List Expr} {Fa : Rho → M Sv} {Fs Fk : Rho → M (List Sv)} {p pos pos2 : Pos}
def mkTl (C : Addr) (ta : TA) : L2.St → Hp → XK → Prop := fun σ H Q => ta σ H fun vs H1 => ∃ v, vs = [v] ∧ ∀ d, H1 d = none → Q (.ref C) (some d) (upd H1 d (.xd [(("bound" : Str), v)]))
theorem pmk_tl {ta : TA} (T : TL X.K X.mg C f) (hr : Room k X.A) (ha : PA X [a] ta) (hg : Gl X "TooLarge" := by rfl) (he : starEach (a :: []) X.env = (false, eval a X.env) :: starEach [] X.env := by rfl) (hpl : (backTo pos (starEach [] X.env)).any (·.1) = false := by rfl) :
    PMk X (.Call (.Name "TooLarge" p) [a] [] pos) (mkTl C ta) := by
  intro pins s σ H Q I h
  refine wpAny_Call_Name_kw (ld_glob I hg T.gC (PySem.W.callWith_K (h₀ := X.base) I.ok.mod.kin T.kp (thn (ha.run pos pins s σ H _ I h) fun us s1 ⟨vs, H1, I1, r1, v, ev, q1⟩ => ⟨I1.kIn, ?_⟩) he hpl))
  subst ev
  obtain ⟨u, rfl, rv⟩ := vals1 r1
  show wpAny _ _ (call (.ref C) [u]) _ _ _
  have lim := I1.nolimit
  obtain ⟨hp, g, dr, tk, os⟩ := s1
  refine wpAny_call (tl_made T I1.kIn lim (by have := hr.dp; omega) fun h' tk' e d mk => ?_)
  show MkP X pins σ Q (.ref e) ⟨h', g, dr, tk', os⟩
  obtain ⟨oe, fv, hoe, hc, hd, hdat, h1⟩ := mk.self
  obtain ⟨G, g1, g2⟩ := restrict h' fun b => decide (b ≠ e)
  have gk : ∀ b, b ≠ e → G.get? b = h'.get? b := fun b hb => g1 b (decide_eq_true hb)
  have ge : G.get? e = none := g2 e (by simp)
  have old : ∀ b o, hp.get? b = some o → G.get? b = some o := fun b o q => (gk b (Nat.ne_of_lt (Nat.lt_of_lt_of_le (Heap.lt_size q) mk.new))).trans (mk.rest b o q)
  have ob : ObjOk X.prog X.w (upd H1 d (.xd [(("bound" : Str), v)])) G d (.xd [(("bound" : Str), v)]) := ⟨_, mk.fld.at (fun o q => (gk d mk.apart).trans q), fun g => rel_bound rv g⟩
  have J : Inv X pins σ (upd H1 d (.xd [(("bound" : Str), v)])) ⟨G, g, dr, tk', os⟩ := I1.laid (t' := tk') old mk.late ob
  have none_e : upd H1 d (.xd [(("bound" : Str), v)]) e = none := by
    rw [upd_ne (Ne.symm mk.apart)]
    exact I1.hok.fresh mk.new
  refine ⟨e, oe, fv, ⟨G, g, dr, tk', os⟩, _, .ref C, some d, rfl, J, fun b o q => ?_, ge, hoe, ⟨hc, hd⟩, hdat, h1, none_e, rfl, I1.bare, raises_own T.sub T.tyC, q1 d (I1.hok.fresh mk.late)⟩
  have q0 : G.get? b = some o := q
  have hb : b ≠ e := fun z => by
    rw [z, ge] at q0
    cases q0
  exact (gk b hb).symm.trans q0
def gRaise (Fa : Rho → M Sv) (ρ : Rho) : M Out := (Fa ρ).bind fun s => M.thr ⟨"TooLarge", some ("bound", s)⟩
theorem s_raise (T : TL X.K X.mg C f) (hc : X.calm = true) (hr : Room k X.A) (tk : Takes X (fun cls d _ H => E cls d H)) (ha : PX X E a Fa) (hg : Gl X "TooLarge" := by rfl) (he : starEach (a :: []) X.env = (false, eval a X.env) :: starEach [] X.env := by rfl) (hpl : (backTo pos (starEach [] X.env)).any (·.1) = false := by rfl) :
    PSX X E (.Raise (some (.Call (.Name "TooLarge" p) [a] [] pos)) none pos2) (gRaise Fa) := ps_weak (ps_raise hc tk (pmk_tl T hr (pa_cons ha pa_nil he) hg he hpl)) fun D σ H ⟨W, ρ, μ, r, h, e, q⟩ => by
  refine tX_bind h e q fun v s W1 H1 μ1 g1 h1 rs e1 q1 => ⟨v, rfl, fun d hd => ?_⟩
  cases e1
  exact q1 W1 _ (.ref C) (some d) ((Grow.refl _ _ _).out hd fun b hb => upd_ne hb) (h1.rel.lay hd) ⟨⟨C, T.nC, rfl⟩, d, v, rfl, upd_same, rs⟩
/-! ### isinstance of a caught one -/
def rIs1 (K : PySem.W.Frag) (C a : Addr) (cls : Value) (d : Option Addr) : List V → Hp → VK → Prop := fun xs H Q => ∃ (dd : Addr) (fs : List (Str × V)) (C1 : Addr) (b : Bool), cls = .ref C ∧ d = some dd ∧ H dd = some (.xd fs) ∧ xs = [.ref a, .ref C1] ∧ PySem.W.kitOne K (.ref C) (.ref C1) = some b ∧ Q (.bl b) H
def rIs2 (K : PySem.W.Frag) (C a : Addr) (cls : Value) (d : Option Addr) : List V → Hp → VK → Prop := fun xs H Q => ∃ (dd : Addr) (fs : List (Str × V)) (t C1 C2 : Addr) (b : Bool), cls = .ref C ∧ d = some dd ∧ H dd = some (.xd fs) ∧ xs = [.ref a, .ref t] ∧ H t = some (.tup [.ref C1, .ref C2]) ∧ PySem.W.kitAny K (.ref C) [.ref C1, .ref C2] = some b ∧ Q (.bl b) H
theorem held_at {pins : List (Addr × Obj)} {σ : L2.St} {H : Hp} {s : Shared} {a dd : Addr} {oe : Obj} {pn : List (Addr × Obj)} {fs : List (Str × V)} (I : Inv (X.suite a ((a, oe) :: pn)) pins σ H s) (hz : Zc (.ref C) (some dd) oe) (hf : ∃ vs, oe.data = .fields vs) (hd : H dd = some (.xd fs)) :
    ∃ od, PySem.W.InstAt s.heap a oe C (some od) := by
  obtain ⟨ha, _⟩ := I.pin (a, oe) (List.mem_append_left _ List.mem_cons_self)
  obtain ⟨vs, hv⟩ := hf
  have hx : ObjOk X.prog X.w H s.heap dd (.xd fs) := I.hok dd _ hd
  obtain ⟨mA, hns, _⟩ := hx
  obtain ⟨od, ho, _⟩ := lookIn_ns hns
  exact ⟨od, ha, hz.1, by unfold PySem.W.notCls; rw [hv] <;> rfl, by rw [hz.2]; exact ho⟩
theorem tl_kit {od : Option Obj} {x : Addr} {ox : Obj} (T : TL X.K X.mg C f) : PySem.W.KitX X.K (.ref x) (.ref C) (fun h => PySem.W.InstAt h x ox C od) := by
  refine PySem.W.kitx_exc ?_ T.f_get T.f_at T.sub T.f_cls T.s_get T.tk T.mro
  obtain ⟨cd, hc, _⟩ := PySem.W.any_some T.dct
  rw [hc]
  rfl
theorem call_is1 {a : Addr} {oe : Obj} {cls : Value} {d : Option Addr} {pn : List (Addr × Obj)} (T : TL X.K X.mg C f) (hz : Zc cls d oe) (hf : ∃ vs, oe.data = .fields vs) : CallR (X.suite a ((a, oe) :: pn)) (.builtin "isinstance") (rIs1 X.K C a cls d) := by
  intro pins s σ H xs us Q I r ⟨dd, fs, C1, b, e1, e2, hd, e3, hk, q⟩
  subst e1 e2 e3
  obtain ⟨u, u2, rfl, r1, r2⟩ := vals2 r
  cases r1
  cases r2
  obtain ⟨od, J⟩ := held_at I hz hf hd
  exact PySem.W.kia_one (tl_kit T) I.kIn J hk (fun z => nomatch z) fun tk => ⟨.bl b, H, I.kept (t' := tk) fun _ _ z => z, rfl, q⟩
theorem call_is2 {a : Addr} {oe : Obj} {cls : Value} {d : Option Addr} {pn : List (Addr × Obj)} (T : TL X.K X.mg C f) (hz : Zc cls d oe) (hf : ∃ vs, oe.data = .fields vs) : CallR (X.suite a ((a, oe) :: pn)) (.builtin "isinstance") (rIs2 X.K C a cls d) := by
  intro pins s σ H xs us Q I r ⟨dd, fs, t, C1, C2, b, e1, e2, hd, e3, ht, hk, q⟩
  subst e1 e2 e3
  obtain ⟨u, u2, rfl, r1, r2⟩ := vals2 r
  cases r1
  cases r2
  obtain ⟨od, J⟩ := held_at I hz hf hd
  obtain ⟨its, rv, ⟨⟨cl, dc, dt, sl⟩, ho, hc, n, hdt⟩, _⟩ := I.tuple (SqT.of ht)
  obtain ⟨v1, v2, rfl, s1, s2⟩ := vals2 rv
  cases s1
  cases s2
  simp only at hc hdt
  subst hc hdt
  exact PySem.W.kia_tup (tl_kit T) I.kIn J ho hk (fun z => nomatch z) fun tk => ⟨.bl b, H, I.kept (t' := tk) fun _ _ z => z, rfl, q⟩
/-! ### the try of the law's own -/
/-- exceptions of a try's body, whatever the slots -/
def EW (n : Nat) (W : WX) : XK := fun cls d H => ∀ σ : L2.St, σ.length = n → W cls d σ H
theorem passW {W : WX} (tk : Takes X W) : Passes (L2.CX X.prog X.w) X (EW X.N.length W) := fun pins σ H s e s' I c => tk e s' (XE.of_call I (fun cls d H' h => h σ I.len) c)
def gTry (G : Rho → M Out) (ρ : Rho) : M Out := fun μ => match G ρ μ with
  | some (.ok (.rt s) μ') => some (.ok (.rt s) μ')
  | some (.ex ⟨c, some (g, s)⟩ μ') => if c = "TooLarge" ∧ g = "bound" then match mkl false [.dat (.str "large"), s] μ' with
    | some (.ok v μ2) => some (.ok (.rt v) μ2)
    | _ => none else none
  | _ => none
/-- the classes that the clause names -/
structure ErrZ (K : PySem.W.Frag) (mg : Str → Option Value) (C f CF C1 C2 : Addr) : Prop where
  tl : TL K mg C f
  gF : mg "FallError" = some (.ref CF)
  g1 : mg "BadLength" = some (.ref C1)
  g2 : mg "BadTree" = some (.ref C2)
  ex : PySem.W.exmOne K (.ref C) (.ref CF) = some true
  k0 : PySem.W.kitOne K (.ref C) (.ref C) = some true
  k1 : PySem.W.kitAny K (.ref C) [.ref C1, .ref C2] = some false
def tsE (K : PySem.W.Frag) (C C1 C2 : Addr) (i : Nat) (a : Addr) (cls : Value) (d : Option Addr) : TS :=
  tIfS (tAnd (tB (tCB (rIs1 K C a cls d) (tCons (tVar i) (tCons (tC (.ref C)) tNil)))) (tNot (tB (tCB (rIs2 K C a cls d) (tCons (tVar i) (tCons (tTup (tCons (tC (.ref C1)) (tCons (tC (.ref C2)) tNil))) tNil))))))
    (tRet (tLst (tCons (tC (.str "large")) (tCons (tXf a cls d C "bound" (tVar i)) tNil)))) tNext
theorem s_try {CF C1 C2 : Addr} {body : List Stmt} {G : Rho → M Out} (i : Nat) {np p1 p2 p3 p4 p5 p6 p7 p8 p9 p10 p11 p12 p13 p14 p15 p16 p17 p18 : Pos} {pos' : Pos} {kk jj : Nat} (Z : ErrZ X.K X.mg C f CF C1 C2) (hs : X.stack = X.env :: X.outer) (hf : X.env.frame = some X.env.locals) (hN : X.N.Nodup) (hi : X.N[i]? = some "e") (hln : X.env.kindOf "e" = some .local)
    (hv : Vis X.env.scope "e") (gF : Gl X "FallError") (gT : Gl X "TooLarge") (g1 : Gl X "BadLength") (g2 : Gl X "BadTree") (gI : Gl X "isinstance") (mI : X.mg "isinstance" = none)
    (hb : ∀ (W : WX) (pn : List (Addr × Obj)) (xe : Value → Shared → Prop), Takes (X.tr pn xe) W → PSSX (X.tr pn xe) (EW X.N.length W) body G) :
    PSX X E (.Try body [.ExceptHandler (some (.Name "FallError" np)) (some "e") [.If (.BoolOp .And [.Call (.Name "isinstance" p1) [.Name "e" p2, .Name "TooLarge" p3] [] p4, .UnaryOp .Not (.Call (.Name "isinstance" p5) [.Name "e" p6, .Tuple [.Name "BadLength" p7, .Name "BadTree" p8] kk p9] [] p10) p11] p12) [.Return (some (.List [.Constant (.str "large") jj p13, .Attribute (.Name "e" p14) "bound" p15] p16)) p17] [] p18] pos'] [] [] pos) (gTry G) := by
  refine ps_weak (ps_try_as (i := i) (tb := fun W => tG X.K (EW X.N.length W) G) (ts := tsE X.K C C1 C2 i) (Wout := fun _ _ _ _ => False) hs hf hN hi hln ⟨gF, by decide, .inl Z.gF⟩ takes0 (fun W pn xe tk _ => hb W pn xe tk) (fun a oe cls d pn hz hfl => ?_)) ?_
  · have xf : XfC X.K C := ⟨Z.tl.f_get, Z.tl.f_at, Z.tl.sub, Z.tl.dct⟩
    have nm : PE (X.suite a ((a, oe) :: pn)) (.Name "e" p2) (tVar i) := pe_var hi hv
    have nm2 : PE (X.suite a ((a, oe) :: pn)) (.Name "e" p6) (tVar i) := pe_var hi hv
    have nm3 : PE (X.suite a ((a, oe) :: pn)) (.Name "e" p14) (tVar i) := pe_var hi hv
    have c0 : PE (X.suite a ((a, oe) :: pn)) (.Name "TooLarge" p3) (tC (.ref C)) := pe_glob gT Z.tl.gC rfl
    have c1 : PE (X.suite a ((a, oe) :: pn)) (.Name "BadLength" p7) (tC (.ref C1)) := pe_glob g1 Z.g1 rfl
    have c2 : PE (X.suite a ((a, oe) :: pn)) (.Name "BadTree" p8) (tC (.ref C2)) := pe_glob g2 Z.g2 rfl
    have i1 : PE (X.suite a ((a, oe) :: pn)) (.Call (.Name "isinstance" p1) [.Name "e" p2, .Name "TooLarge" p3] [] p4) _ := pe_callB (call_is1 Z.tl hz hfl) gI mI PyProof.Rows.boot_isinstance (pa_cons nm (pa_cons c0 pa_nil))
    have i2 : PE (X.suite a ((a, oe) :: pn)) (.Call (.Name "isinstance" p5) [.Name "e" p6, .Tuple [.Name "BadLength" p7, .Name "BadTree" p8] kk p9] [] p10) _ := pe_callB (call_is2 Z.tl hz hfl) gI mI PyProof.Rows.boot_isinstance (pa_cons nm2 (pa_cons (pe_tup (pa_cons c1 (pa_cons c2 pa_nil))) pa_nil))
    exact pss_one (ps_if (pw_and (pt_val i1) (pw_and1 (pt_not (pt_val i2)))).pt (pss_one (ps_ret (pe_lst (pa_cons pe_str (pa_cons (pe_xf xf Z.tl.f_fld hz hfl nm3) pa_nil))))) pss_nil)
  · intro D σ H ⟨W, ρ, μ, r, h, e, q⟩
    unfold gTry at e
    cases eg : G ρ μ with
    | none =>
      rw [eg] at e
      cases e
    | some x =>
      rw [eg] at e
      refine ⟨W, ρ, μ, x, h, eg, ?_⟩
      cases x with
      | ok o μ' =>
        cases o with
        | rt s =>
          cases e
          exact q
        | _ => cases e
      | ex c μ' =>
        obtain ⟨c, fl⟩ := c
        cases fl with
        | none => cases e
        | some gs =>
          obtain ⟨g, s⟩ := gs
          dsimp only at e
          split at e
          · rename_i cg
            obtain ⟨rfl, rfl⟩ := cg
            split at e
            · rename_i v μ2 em
              cases e
              intro W1 H1 cls d g1 R1 ⟨⟨C', hC', ec⟩, dd, v1, ed, hd, rv⟩ σ' hl
              rw [Z.tl.nC] at hC'
              cases hC'
              subst ec ed
              refine ⟨true, Z.ex, fun _ a ha => ?_, fun z => nomatch z⟩
              have si : (σ'.set i (some (V.ref a)))[i]? = some (some (.ref a)) := List.getElem?_set_self (by rw [hl]; exact (List.getElem?_eq_some_iff.mp hi).1)
              refine ⟨.ref a, si, dd, _, C, true, rfl, rfl, hd, rfl, Z.k0, true, rfl, ?_⟩
              refine ⟨.ref a, si, (by show 2 ≤ sizeLine; decide), fun t ht => ?_⟩
              have hd2 : upd H1 t (.tup [.ref C1, .ref C2]) dd = some (.xd [("bound", v1)]) := by
                rw [upd_ne (ne_of_none hd ht)]
                exact hd
              refine ⟨dd, _, t, C1, C2, false, rfl, rfl, hd2, rfl, upd_same, Z.k1, false, rfl, ?_⟩
              refine ⟨.ref a, si, rfl, rfl, dd, _, v1, rfl, hd2, rfl, (by show 2 ≤ sizeLine; decide), fun p hp => ?_⟩
              have R2 : Rel X.K W1 (upd H1 t (.tup [.ref C1, .ref C2])) μ' := R1.lay ht
              have g2 : Grow W H μ W1 (upd H1 t (.tup [.ref C1, .ref C2])) μ' := g1.trans ((Grow.refl _ _ _).out ht fun b hb => upd_ne hb)
              refine mkl_ok (E := E) R2 hp (.cons (show SvR X.K W1 μ'.length (V.str "large") (.dat (.str "large")) from Dq.str _) (.cons rv .nil)) em fun W3 H3 g3 R3 u ru => ?_
              exact q W3 H3 (g2.trans g3) R3 u ru
            · cases e
          · cases e
end
/-! ### a call with keywords -/
structure KB (K : PySem.W.Frag) (fd : FuncData) (ps : List Str) (n : Nat) (ks : List Str) : Prop where
  to : ∀ (s : Shared) (us ws : List Value), K.In s.heap → us.length = n → ws.length = ks.length → BindsTo s fd ⟨us, ks.zip ws⟩ (ps.zip (us ++ ws))
abbrev PKX (X : Cx) (E : XK) (kws : List Keyword) (F : Rho → M (List Sv)) : Prop := PK X kws (tAr X.K E F)
theorem pk_weak {X : Cx} {e : List Keyword} {t t' : TA} (h : PK X e t) (w : ∀ σ H Q, t' σ H Q → t σ H Q) : PK X e t' := ⟨fun pos pins s σ H Q I q => h.run pos pins s σ H Q I (w _ _ _ q)⟩
section
variable {X : Cx} {E : XK} {CX : CXT} {k j n : Nat} {f : Addr} {fd : FuncData} {ps ks : List Str} {x : Str} {p pos kpos : Pos} {a e : Expr} {es : List Expr} {kws : List Keyword} {nm : Option Str} {Fm : List Sv → M Sv} {Fa : Rho → M Sv} {Fs Fk : Rho → M (List Sv)}
theorem k_nil : PKX X E [] argN := pk_weak pk_nil fun σ H Q ⟨W, ρ, μ, r, h, e, q⟩ => by
  cases e
  exact q _ _ (Grow.refl _ _ _) h.rel _ .nil
theorem k_cons (ha : PX X E a Fa) (hr : PKX X E kws Fs) : PKX X E (⟨nm, a, kpos⟩ :: kws) (argC Fa Fs) := pk_weak (pk_cons ha hr) fun σ H Q ⟨W, ρ, μ, r, h, e, q⟩ => by
  refine tX_bind h e q fun v a W1 H1 μ1 g1 h1 ra e1 q1 => tAr_bind h1 e1 q1 fun vs ss W2 H2 μ2 g2 h2 rs e2 q2 => ?_
  cases e2
  exact q2 _ _ (Grow.refl _ _ _) h2.rel _ (.cons (ra.grow g2) rs)
def callK (Fm : List Sv → M Sv) (n m : Nat) (Fs Fk : Rho → M (List Sv)) (ρ : Rho) : M Sv := (Fs ρ).bind fun ss => (Fk ρ).bind fun zs => if (decide (ss.length = n) && decide (zs.length = m)) = true then Fm (ss ++ zs) else M.fail
theorem x_callK {l m : Nat} (F : Gk X.prog X.w X.K X.mg X.base CX j f fd ps (spM X.K l Fm)) (hgd : X.A.guards = some []) (hr : Room k X.A) (hm : X.mg x = some (.ref f)) (hk : PySem.W.keepIn X.K (.ref f) = true) (hb : KB X.K fd ps n ks) (hx : Passes CX X E) (ha : PAX X E (e :: es) Fs) (hkw : PKX X E kws Fk) (hnl : n + m = l) (hkl : ks.length = m := by rfl)
    (hg : Gl X x := by rfl) (hj : j ≤ k := by decide) (hall : (backToKw pos (keywordEach kws X.env)).all (·.1.isSome) = true := by rfl) (hks : (backToKw pos (keywordEach kws X.env)).filterMap (·.1) = ks := by rfl) (hdb : (x == ("__debug__" : Str)) = false := by decide)
    (he : starEach (e :: es) X.env = (false, eval e X.env) :: starEach es X.env := by rfl) (hpl : ((backTo pos (starEach (e :: es) X.env)).any (·.1) || (backToKw pos (keywordEach kws X.env)).any (·.1.isNone)) = false := by rfl) :
    PX X E (.Call (.Name x p) (e :: es) kws pos) (callK Fm n m Fs Fk) := by
  subst hkl
  constructor
  intro pins s σ H Q I ⟨W, ρ, μ, r, h, e0, q⟩
  have want : tAr X.K E Fs σ H fun vs H1 => tAr X.K E Fk σ H1 fun zs H2 => vs.length = n ∧ zs.length = ks.length ∧ spM X.K l Fm (vs ++ zs) H2 Q E := tAr_bind h e0 q fun vs ss W1 H1 μ1 g1 h1 rs e1 q1 => tAr_bind h1 e1 q1 fun zs ts W2 H2 μ2 g2 h2 rt e2 q2 => by
    obtain ⟨c, e2⟩ := iff_ok e2
    obtain ⟨c1, c2⟩ := Bool.and_eq_true_iff.mp c
    have l1 := rs.len.trans (of_decide_eq_true c1)
    have l2 := rt.len.trans (of_decide_eq_true c2)
    exact ⟨l1, l2, by rw [List.length_append, l1, l2, hnl], W2, μ2, _, r, h2.rel, (rs.grow g2).append rt, e2, q2⟩
  refine wpAny_Call_Name_kw (ld_glob I hg hm (PySem.W.callWith_KW (h₀ := X.base) I.ok.mod.kin hk hall (thn (ha.run pos pins s σ H _ I want) fun us s1 ⟨vs, H1, I1, r1, q1⟩ => ?_) hpl he) hdb)
  refine thn (hkw.run pos pins s1 σ H1 _ I1 q1) fun ws s2 ⟨zs, H2, I2, rz, l1, l2, sp⟩ => ⟨I2.kIn, ?_⟩
  rw [hks]
  have rr := Vals.append r1 rz
  have lu : us.length = n := (Vals.length r1).symm.trans l1
  have lw : ws.length = ks.length := (Vals.length rz).symm.trans l2
  have gr := (F.up hj).grun X.A X.stack s2 H2 ⟨us, ks.zip ws⟩ (us ++ ws) (vs ++ zs) Q E hgd hr (Inv.env0 I2) (hb.to s2 us ws I2.kIn lu lw) rr sp
  refine wpAny_call (codeAny_mono gr fun res s3 hc => ?_)
  match res, hc with
  | .error ex, hc => exact hx pins σ H2 s2 ex s3 I2 hc
  | .ok (.ret u), hc => exact Inv.after I2 hc
/-- .. a default fills up -/
def callD (Fm : List Sv → M Sv) (n : Nat) (dd : List PyData) (Fs : Rho → M (List Sv)) (ρ : Rho) : M Sv := (Fs ρ).bind fun ss => if decide (ss.length + dd.length = n) = true then Fm (ss ++ dd.map Sv.dat) else M.fail
theorem x_callD {l : Nat} {i : Int} (F : Gk X.prog X.w X.K X.mg X.base CX j f fd ps (spM X.K l Fm)) (hgd : X.A.guards = some []) (hr : Room k X.A) (hm : X.mg x = some (.ref f)) (hk : PySem.W.keepIn X.K (.ref f) = true) (hb : ∃ ds, Vals [V.int i] ds ∧ Binds X.K fd ps ds) (hx : Passes CX X E) (ha : PAX X E (e :: es) Fs) (hg : Gl X x := by rfl) (hj : j ≤ k := by decide)
    (hdb : (x == ("__debug__" : Str)) = false := by decide) (he : starEach (e :: es) X.env = (false, eval e X.env) :: starEach es X.env := by rfl) (hpl : (backTo pos (starEach es X.env)).any (·.1) = false := by rfl) : PX X E (.Call (.Name x p) (e :: es) [] pos) (callD Fm l [.int i] Fs) := by
  obtain ⟨ds, hd, hb⟩ := hb
  exact x_call (p := p) (pos := pos) (dvs := [.int i]) (dd := [.int i]) F hgd (hr.mono hj) hm hk hb hd (fun _ => .cons (.int i) .nil) hx ha hg hdb he hpl
end
end Pf

namespace Pf
open PySem PySem.Spec PyProof.Rows L2
/-! running bodies, what is shown: shared by the laws -/
/-! ### a tuple's repetition -/
def pMulT (a b : Sv) : M Sv := match a, b with
  | .dat (.tuple xs), .dat (.int k) => if (decide (0 < xs.length) && decide (2 ≤ k) && decide (k ≤ 1000) && decide (xs.length ≤ 1000)) = true then M.ret (.dat (.tuple (List.replicate k.toNat xs).flatten)) else M.fail
  | _, _ => M.fail
theorem flat_dqs {K : PySem.W.Frag} {H : Hp} {vs : List V} {xs : List PyData} (h : Dqs K H vs xs) : ∀ k : Nat, Dqs K H (List.replicate k vs).flatten (List.replicate k xs).flatten
  | 0 => .nil
  | k + 1 => by
    rw [List.replicate_succ, List.replicate_succ, List.flatten_cons, List.flatten_cons]
    exact h.append (flat_dqs h k)
theorem o_mulT {X : Cx} {E : XK} : OpR X (binaryOp .Mult) (rO2 X.K E pMulT) := opr_weak op_repT fun x y H Q ⟨W, μ, a, b, r, R, ra, rb, e, q⟩ => by
  unfold pMulT at e
  split at e
  · obtain ⟨c, e⟩ := iff_ok e
    obtain ⟨c, c4⟩ := Bool.and_eq_true_iff.mp c
    obtain ⟨c, c3⟩ := Bool.and_eq_true_iff.mp c
    obtain ⟨c1, c2⟩ := Bool.and_eq_true_iff.mp c
    cases ra with
    | tup h1 r1 =>
      have l := r1.len
      refine ⟨_, _, _, rfl, dq_int rb, seqT_mono R.sub h1, fun z => ?_, of_decide_eq_true c2, of_decide_eq_true c3, by rw [l]; exact of_decide_eq_true c4, fun p hp => dq_tup R hp (flat_dqs r1 _) e q⟩
      rw [z] at l
      have := of_decide_eq_true c1
      rw [← l] at this
      exact absurd this (Nat.lt_irrefl 0)
  · cases e
theorem x_gintE {X : Cx} {E : XK} {x : Str} {i : Int} {pos : Pos} (hg : Gl X x) (h : ∃ t, X.mg x = some (.int i t)) (hd : (x == ("__debug__" : Str)) = false := by decide) : PX X E (.Name x pos) (con (.int i)) := by
  obtain ⟨t, e⟩ := h
  exact x_gint hg e ⟨t, rfl⟩ hd
/-! ### more running -/
theorem andV_t {Fa Fb : Rho → M Sv} {ρ : Rho} {μ μ1 : Mu} (h : Fa ρ μ = some (.ok (.dat (.bool true)) μ1)) : andV Fa Fb ρ μ = Fb ρ μ1 := by
  unfold andV
  rw [bind_ok h]
  rfl
theorem andV_f {Fa Fb : Rho → M Sv} {ρ : Rho} {μ μ1 : Mu} (h : Fa ρ μ = some (.ok (.dat (.bool false)) μ1)) : andV Fa Fb ρ μ = some (.ok (.dat (.bool false)) μ1) := by
  unfold andV
  rw [bind_ok h]
  rfl
theorem or_t {F G : Rho → M Bool} {ρ : Rho} {μ μ1 : Mu} (h : F ρ μ = some (.ok true μ1)) : orT F G ρ μ = some (.ok true μ1) := by
  unfold orT
  rw [bind_ok h]
  rfl
theorem args_c {F : Rho → M Sv} {Fs : Rho → M (List Sv)} {ρ : Rho} {μ μ1 μ2 : Mu} {a : Sv} {as : List Sv} (h : F ρ μ = some (.ok a μ1)) (h2 : Fs ρ μ1 = some (.ok as μ2)) : argC F Fs ρ μ = some (.ok (a :: as) μ2) := by
  unfold argC
  rw [bind_ok h, bind_ok h2]
  rfl
theorem args_n {ρ : Rho} {μ : Mu} : argN ρ μ = some (.ok [] μ) := rfl
theorem lst_at {Fs : Rho → M (List Sv)} {ρ : Rho} {μ μ1 : Mu} {ss : List Sv} (ds : List PyData) (h : Fs ρ μ = some (.ok ss μ1)) (e : ss = ds.map Sv.dat) (hl : ds.length ≤ 1000000) : lstV false Fs ρ μ = some (.ok (.dat (.list ds)) μ1) := by
  subst e
  unfold lstV
  rw [bind_ok h, List.length_map, iteM, if_pos (show szOk ds.length = true from decide_eq_true hl)]
  exact mkl_dat ds μ1
theorem tup_at {Fs : Rho → M (List Sv)} {ρ : Rho} {μ μ1 : Mu} {ss : List Sv} (ds : List PyData) (h : Fs ρ μ = some (.ok ss μ1)) (e : ss = ds.map Sv.dat) (hl : ds.length ≤ 1000000) : tupV Fs ρ μ = some (.ok (.dat (.tuple ds)) μ1) := by
  subst e
  unfold tupV
  rw [bind_ok h, List.length_map, iteM, if_pos (show szOk ds.length = true from decide_eq_true hl)]
  unfold mkt
  rw [dats_map]
  rfl
theorem tcat_at {xs ys : List PyData} (h : xs.length + ys.length ≤ 1000000) (μ : Mu) : pAdd false (.dat (.tuple xs)) (.dat (.tuple ys)) μ = some (.ok (.dat (.tuple (xs ++ ys))) μ) := by
  show (if szOk (xs.length + ys.length) = true then M.ret (Sv.dat (.tuple (xs ++ ys))) else M.fail) μ = _
  rw [if_pos (show szOk (xs.length + ys.length) = true from decide_eq_true h)]
  rfl
theorem sl_lo {Fa F : Rho → M Sv} {ρ : Rho} {μ : Mu} {ds : List PyData} {i : Int} (h : Fa ρ μ = some (.ok (.dat (.tuple ds)) μ)) (e : F ρ μ = some (.ok (svI i) μ)) : slV false Fa (aPart F) noPart ρ μ = some (.ok (.dat (.tuple (cutL ds (some i) none))) μ) := by
  simp only [slV, aPart, noPart, asI, M.bind, ret_at, h, e, pSl]
theorem sl_hi {Fa F : Rho → M Sv} {ρ : Rho} {μ : Mu} {ds : List PyData} {i : Int} (h : Fa ρ μ = some (.ok (.dat (.tuple ds)) μ)) (e : F ρ μ = some (.ok (svI i) μ)) : slV false Fa noPart (aPart F) ρ μ = some (.ok (.dat (.tuple (cutL ds none (some i)))) μ) := by
  simp only [slV, aPart, noPart, asI, M.bind, ret_at, h, e, pSl]
theorem mem_cut {α : Type} {xs : List α} {lo hi : Option Int} {x : α} (h : x ∈ cutL xs lo hi) : x ∈ xs := List.mem_of_mem_drop (List.mem_of_mem_take h)
theorem len_cut {α : Type} {xs : List α} {lo hi : Option Int} : (cutL xs lo hi).length ≤ xs.length := by
  unfold cutL
  rw [List.length_take, List.length_drop]
  omega
theorem len_hi {α : Type} {xs : List α} {k : Nat} : (cutL xs none (some (k : Int))).length ≤ k := by
  unfold cutL
  rw [HT.sIx_none, HT.sIx_nat, List.length_take]
  omega
theorem atI_mem {α : Type} {xs : List α} {i : Int} (h0 : 0 ≤ i) (h1 : i < xs.length) : ∃ x, x ∈ xs ∧ atI xs i = some x := by
  obtain ⟨x, a, b⟩ := atI_lt h0 h1
  exact ⟨x, List.mem_of_getElem? a, b⟩
theorem par3_at {i j k : Nat} {Fs : Rho → M (List Sv)} {ρ : Rho} {μ μ1 : Mu} {a b c : Sv} (h : Fs ρ μ = some (.ok [a, b, c] μ1)) : gPar3 i j k Fs ρ μ = some (.ok (.nx (((ρ.set i (some a)).set j (some b)).set k (some c))) μ1) := by
  unfold gPar3
  rw [bind_ok h]
  rfl
/-- a comprehension whose element writes -/
theorem lcL_go {T : Sv → Rho → M Rho} {Fe : Rho → M Sv} {ρ : Rho} (N : Nat) (I : Nat → Mu → Prop) (P : PyData → Prop) : ∀ (ds : List PyData) (k : Nat) (μ : Mu), k + ds.length ≤ N → (∀ d ∈ ds, ∀ i μ, i < N → I i μ → ∃ ρ1 x μ', T (.dat d) ρ μ = some (.ok ρ1 μ) ∧ Fe ρ1 μ = some (.ok (.dat x) μ') ∧ P x ∧ I (i + 1) μ') → I k μ →
    ∃ (xs : List PyData) (μ' : Mu), lcL T yes Fe ds ρ μ = some (.ok (xs.map Sv.dat) μ') ∧ (∀ x ∈ xs, P x) ∧ xs.length = ds.length ∧ I (k + ds.length) μ'
  | [], k, μ, _, _, h => ⟨[], μ, rfl, fun _ z => (nomatch z), rfl, h⟩
  | d :: ds, k, μ, hk, st, h => by
    rw [List.length_cons] at hk
    obtain ⟨ρ1, x, μ1, e1, e2, p, h1⟩ := st d List.mem_cons_self k μ (by omega) h
    obtain ⟨xs, μ2, e3, p2, l, h2⟩ := lcL_go N I P ds (k + 1) μ1 (by omega) (fun d hd => st d (List.mem_cons_of_mem _ hd)) h1
    refine ⟨x :: xs, μ2, ?_, fun y hy => ?_, by rw [List.length_cons, List.length_cons, l], ?_⟩
    · simp only [lcL, M.bind, noEx, e1, yes, M.ret, e2, if_true, e3, List.map_cons]
    · rcases List.mem_cons.mp hy with z | z
      · rw [z]
        exact p
      · exact p2 y z
    · rw [List.length_cons]
      have : k + (ds.length + 1) = k + 1 + ds.length := by omega
      rw [this]
      exact h2
theorem lcV_go {T : Sv → Rho → M Rho} {Fe : Rho → M Sv} {Fi : Rho → M (List PyData)} {vs : List Nat} {ρ : Rho} {μ : Mu} {ds : List PyData} (I : Nat → Mu → Prop) (P : PyData → Prop) (e : Fi ρ μ = some (.ok ds μ)) (hl : ds.length ≤ 1000000)
    (st : ∀ d ∈ ds, ∀ i μ, i < ds.length → I i μ → ∃ ρ1 x μ', T (.dat d) (wipeR ρ vs) μ = some (.ok ρ1 μ) ∧ Fe ρ1 μ = some (.ok (.dat x) μ') ∧ P x ∧ I (i + 1) μ') (h : I 0 μ) :
    ∃ (xs : List PyData) (μ' : Mu), lcV false vs Fi T yes Fe ρ μ = some (.ok (.dat (.list xs)) μ') ∧ (∀ x ∈ xs, P x) ∧ xs.length = ds.length ∧ I ds.length μ' := by
  obtain ⟨xs, μ', e2, p, l, h2⟩ := lcL_go ds.length I P ds 0 μ (by omega) st h
  rw [Nat.zero_add] at h2
  refine ⟨xs, μ', ?_, p, l, h2⟩
  unfold lcV
  rw [bind_ok e, iteM, if_pos (show szOk ds.length = true from decide_eq_true hl), bind_ok e2]
  exact mkl_dat xs μ'
theorem btup_at (xs : List PyData) (μ : Mu) : bTuple [.dat (.list xs)] μ = some (.ok (.dat (.tuple xs)) μ) := by
  show M.bind (lsOf (.dat (.list xs))) mkt μ = _
  rw [bind_ok (show lsOf (.dat (.list xs)) μ = some (.ok (xs.map Sv.dat) μ) from rfl)]
  unfold mkt
  rw [dats_map]
  rfl
/-! ### values by two kinds: no dict within, no list within -/
def cls (c : Bool) (d : PyData) : Bool := match c with
  | true => bare d
  | false => !d.hasDict
structure Va (c : Bool) (d : PyData) (n k : Nat) : Prop where
  lf : lfs d = true
  cl : cls c d = true
  dp : d.depth ≤ k
  sz : wt d ≤ n
theorem Va.up {c : Bool} {d : PyData} {n k n' k' : Nat} (h : Va c d n k) (hn : n ≤ n') (hk : k ≤ k') : Va c d n' k' := ⟨h.lf, h.cl, Nat.le_trans h.dp hk, Nat.le_trans h.sz hn⟩
theorem Va.nice {c : Bool} {d : PyData} {n k : Nat} (h : Va c d n k) (hk : k ≤ 10) : Nice d n := ⟨h.lf, by
  have z := h.cl
  cases c with
  | true => rw [show bare d = true from z, Bool.or_true]
  | false => rw [show (!d.hasDict) = true from z, Bool.true_or], Nat.le_trans h.dp hk, h.sz⟩
theorem bareAll_of : ∀ {ds : List PyData}, (∀ d ∈ ds, bare d = true) → bare.bareAll ds = true
  | [], _ => by simp only [bare.bareAll]
  | d :: ds, h => by
    simp only [bare.bareAll, h d List.mem_cons_self, bareAll_of (ds := ds) fun d hd => h d (List.mem_cons_of_mem _ hd), Bool.and_self]
theorem Va.tuple {c : Bool} {ds : List PyData} {n k : Nat} (h : ∀ d ∈ ds, Va c d n k) : Va c (.tuple ds) ((n + 2) * ds.length + 3) (k + 1) :=
  ⟨by simp only [lfs]; exact lfss_of fun d hd => (h d hd).lf, by
    cases c with
    | true => simp only [cls, bare]; exact bareAll_of fun d hd => (h d hd).cl
    | false =>
      simp only [cls, PyData.hasDict]
      rw [nodict_of fun d hd => ?_]
      · rfl
      · have z : (!d.hasDict) = true := (h d hd).cl
        simpa using z, by simp only [PyData.depth]; exact Nat.succ_le_succ (depth_of fun d hd => (h d hd).dp),
    by simp only [wt]; exact Nat.add_le_add_right (wts_le fun d hd => (h d hd).sz) 3⟩
theorem Va.list {ds : List PyData} {n k : Nat} (h : ∀ d ∈ ds, Va false d n k) : Va false (.list ds) ((n + 2) * ds.length + 2) (k + 1) :=
  ⟨by simp only [lfs]; exact lfss_of fun d hd => (h d hd).lf, by
      simp only [cls, PyData.hasDict]
      rw [nodict_of fun d hd => ?_]
      · rfl
      · have z : (!d.hasDict) = true := (h d hd).cl
        simpa using z, by simp only [PyData.depth]; exact Nat.succ_le_succ (depth_of fun d hd => (h d hd).dp),
    by simp only [wt]; exact Nat.add_le_add_right (wts_le fun d hd => (h d hd).sz) 2⟩
def vaB (c : Bool) (d : PyData) (n k : Nat) : Bool := lfs d && cls c d && decide (d.depth ≤ k) && decide (wt d ≤ n)
theorem Va.of {c : Bool} {d : PyData} {n k : Nat} (h : vaB c d n k = true) : Va c d n k := by
  obtain ⟨h, h4⟩ := Bool.and_eq_true_iff.mp h
  obtain ⟨h, h3⟩ := Bool.and_eq_true_iff.mp h
  obtain ⟨h1, h2⟩ := Bool.and_eq_true_iff.mp h
  exact ⟨h1, h2, of_decide_eq_true h3, of_decide_eq_true h4⟩
def Some' (d : PyData) (n k : Nat) : Prop := ∃ c, Va c d n k
theorem Va.int {c : Bool} {i : Int} (h : i.natAbs < 10 ^ 42) : Va c (.int i) 44 0 := ⟨by simp only [lfs]; exact decide_eq_true h, by cases c <;> simp [cls, bare, PyData.hasDict], by simp only [PyData.depth]; exact Nat.le_refl _, by simp only [wt]; exact Nat.le_refl _⟩
theorem va_row {c : Bool} {r : Int × Int} (h1 : 0 ≤ r.1 ∧ r.1 ≤ 1000) (h2 : 1 ≤ r.2 ∧ r.2 ≤ 1000000) : Va c (rowD r) 95 1 := by
  refine Va.tuple (ds := [.int r.1, .int r.2]) (n := 44) (k := 0) fun d hd => ?_
  rcases List.mem_cons.mp hd with rfl | hd
  · exact .int (Nat.lt_trans (show r.1.natAbs < 10000000 by omega) (by decide +kernel))
  · rw [List.mem_singleton.mp hd]
    exact .int (Nat.lt_trans (show r.2.natAbs < 10000000 by omega) (by decide +kernel))
theorem va_rows {c : Bool} {rows : List (Int × Int)} (ok : TreeOk rows) (hl : rows.length ≤ 11) : ∀ d ∈ rows.map rowD, Va c d 95 1 := fun d hd => by
  obtain ⟨r, hr, rfl⟩ := List.mem_map.mp hd
  have b := ok.at_ hr
  exact va_row (by omega) (by omega)
theorem callF_at {Fm : List Sv → M Sv} {n : Nat} {Fs : Rho → M (List Sv)} {ρ : Rho} {μ μ1 : Mu} {ss : List Sv} (h : Fs ρ μ = some (.ok ss μ1)) (l : ss.length = n) : callF Fm n Fs ρ μ = Fm ss μ1 := by
  unfold callF
  rw [bind_ok h, iteM, if_pos (decide_eq_true l)]
theorem callV_at {op : List Sv → M Sv} {Fs : Rho → M (List Sv)} {ρ : Rho} {μ μ1 : Mu} {ss : List Sv} (h : Fs ρ μ = some (.ok ss μ1)) : callV op Fs ρ μ = op ss μ1 := by
  unfold callV
  rw [bind_ok h]
theorem cutL_map {α β : Type} (g : α → β) (xs : List α) (lo hi : Option Int) : cutL (xs.map g) lo hi = (cutL xs lo hi).map g := by
  unfold cutL
  rw [List.length_map, List.map_take, List.map_drop]
theorem most_of (x y z : Int) (hx : 1 ≤ x ∧ x ≤ 12) (hy : 1 ≤ y ∧ y ≤ 12) (hz : 1 ≤ z ∧ z ≤ 12) (i : Nat) : ∃ most : Int, 1 ≤ most ∧ most ≤ 12 ∧ atI [PyData.int x, .int y, .int z] ((i : Int) % 3) = some (.int most) := by
  have a0 : 0 ≤ (i : Int) % 3 := Int.emod_nonneg _ (by decide)
  have a1 : (i : Int) % 3 < 3 := Int.emod_lt_of_pos _ (by decide)
  rcases (show (i : Int) % 3 = 0 ∨ (i : Int) % 3 = 1 ∨ (i : Int) % 3 = 2 by omega) with q | q | q
  · rw [q]
    exact ⟨x, hx.1, hx.2, atI_0 _ _⟩
  · rw [q]
    exact ⟨y, hy.1, hy.2, atI_1 _ _ _⟩
  · rw [q]
    exact ⟨z, hz.1, hz.2, atI_2 _ _ _ _⟩
/-! ### results that may be the error -/
def tooL : Exc := ⟨"TooLarge", some ("bound", svI 12)⟩
def resE (o : Option PyData) (μ : Mu) : Res Sv := match o with
  | some d => .ok (.dat d) μ
  | none => .ex tooL μ
def outE (o : Option PyData) (μ : Mu) : Res Out := match o with
  | some d => .ok (.rt (.dat d)) μ
  | none => .ex tooL μ
section
variable {α : Type} {enc : α → List Sv} {ok : α → Prop} {out : α → Option PyData}
open Classical in
noncomputable def pureE (enc : α → List Sv) (ok : α → Prop) (out : α → Option PyData) (ss : List Sv) : M Sv := fun μ => if h : ∃ x, ss = enc x ∧ ok x then some (resE (out h.choose) μ) else none
theorem pureE_eq (inj : ∀ x y, enc x = enc y → x = y) {x : α} (h : ok x) (μ : Mu) : pureE enc ok out (enc x) μ = some (resE (out x) μ) := by
  have ex : ∃ y, enc x = enc y ∧ ok y := ⟨x, rfl, h⟩
  have e : ex.choose = x := (inj _ _ ex.choose_spec.1).symm
  unfold pureE
  rw [dif_pos ex, e]
theorem same_pureE {N n : Nat} {G : Rho → M Out} (h : ∀ x μ, ok x → ∃ g, G (ini N (enc x)) μ = some (outE (out x) (μ ++ g))) (ss : List Sv) (μ : Mu) (r : Res Sv) (_ : ss.length = n) (wf : Wf μ) (e : pureE enc ok out ss μ = some r) :
    ∃ r', G (ini N ss) μ = some r' ∧ Agree μ.length r r' := by
  unfold pureE at e
  by_cases q : ∃ x, ss = enc x ∧ ok x
  · rw [dif_pos q] at e
    cases e
    obtain ⟨e1, e2⟩ := q.choose_spec
    obtain ⟨g, eg⟩ := h _ μ e2
    rw [← e1] at eg
    refine ⟨_, eg, ?_⟩
    cases out q.choose with
    | some d => exact ⟨rfl, ⟨g, rfl⟩, wf, Nat.le_refl _, trivial⟩
    | none => exact ⟨rfl, ⟨g, rfl⟩, wf, Nat.le_refl _, fun f s z => by
        cases z
        trivial⟩
  · rw [dif_neg q] at e
    cases e
end
theorem ret_E {Fa : Rho → M Sv} {ρ : Rho} {μ : Mu} {o : Option PyData} (h : Fa ρ μ = some (resE o μ)) : gRet Fa ρ μ = some (outE o μ) := by
  cases o with
  | some d => exact ret_gives h
  | none =>
    unfold gRet
    rw [bind_ex h]
    rfl
theorem seq_E {G G' : Rho → M Out} {ρ : Rho} {μ : Mu} {o : Option PyData} (h : G ρ μ = some (outE o μ)) : gSeq G G' ρ μ = some (outE o μ) := by
  cases o with
  | some d => exact seq_rt h
  | none =>
    unfold gSeq
    rw [bind_ex h]
    rfl
def largeD : PyData := .list [.str "large", .int 12]
theorem try_at {G : Rho → M Out} {ρ : Rho} {μ : Mu} {o : Option PyData} (h : G ρ μ = some (outE o μ)) : gTry G ρ μ = some (.ok (.rt (.dat (o.getD largeD))) μ) := by
  unfold gTry
  rw [h]
  cases o with
  | some d => rfl
  | none =>
    show (if ("TooLarge" : Str) = "TooLarge" ∧ ("bound" : Str) = "bound" then _ else none) = _
    rw [if_pos ⟨rfl, rfl⟩]
    rfl
theorem callK_at {Fm : List Sv → M Sv} {n m : Nat} {Fs Fk : Rho → M (List Sv)} {ρ : Rho} {μ : Mu} {ss zs : List Sv} (h : Fs ρ μ = some (.ok ss μ)) (h2 : Fk ρ μ = some (.ok zs μ)) (l1 : ss.length = n) (l2 : zs.length = m) : callK Fm n m Fs Fk ρ μ = Fm (ss ++ zs) μ := by
  unfold callK
  rw [bind_ok h, bind_ok h2, iteM, decide_eq_true l1, decide_eq_true l2, Bool.and_self, if_pos rfl]
theorem callD_at {Fm : List Sv → M Sv} {n : Nat} {dd : List PyData} {Fs : Rho → M (List Sv)} {ρ : Rho} {μ : Mu} {ss : List Sv} (h : Fs ρ μ = some (.ok ss μ)) (l1 : ss.length + dd.length = n) : callD Fm n dd Fs ρ μ = Fm (ss ++ dd.map Sv.dat) μ := by
  unfold callD
  rw [bind_ok h, iteM, if_pos (decide_eq_true l1)]
theorem blenT (rows : List (Int × Int)) (μ : Mu) : bLen [.dat (treeD rows)] μ = some (.ok (svI (rows.length : Nat)) μ) := by
  show some (Res.ok (svI ((rows.map rowD).length : Nat)) μ) = _
  rw [List.length_map]
theorem ifV_t {F : Rho → M Bool} {Fa Fb : Rho → M Sv} {ρ : Rho} {μ μ1 : Mu} (h : F ρ μ = some (.ok true μ1)) : ifV F Fa Fb ρ μ = Fa ρ μ1 := by
  unfold ifV
  rw [bind_ok h]
  rfl
theorem ifV_f {F : Rho → M Bool} {Fa Fb : Rho → M Sv} {ρ : Rho} {μ μ1 : Mu} (h : F ρ μ = some (.ok false μ1)) : ifV F Fa Fb ρ μ = Fb ρ μ1 := by
  unfold ifV
  rw [bind_ok h]
  rfl
end Pf

namespace Pf
open PySem PySem.Spec PyProof.Rows L2 PySem.W 
/-! ### max(xs), min(xs) of ints; e in xs -/
section
variable {X : Cx} {E : XK}
/-- max, min of a list or a tuple of ints -/
def bBest (f : Int → Int → Int) (ss : List Sv) : M Sv := match ss with
  | [s] => (rd s).bind fun d => match d with
    | .list ds => (orFail (asInts ds)).bind fun ns => match ns with
      | n :: r => M.ret (.dat (.int (r.foldl f n)))
      | [] => M.fail
    | .tuple ds => (orFail (asInts ds)).bind fun ns => match ns with
      | n :: r => M.ret (.dat (.int (r.foldl f n)))
      | [] => M.fail
    | _ => M.fail
  | _ => M.fail
theorem asInts_eq : ∀ {ds : List PyData} {ns : List Int}, asInts ds = some ns → ds = ns.map PyData.int
  | [], _, e => by
    cases e
    rfl
  | .int i :: ds, _, e => by
    have e' : (asInts ds).map (i :: ·) = some _ := e
    cases q : asInts ds with
    | none =>
      rw [q] at e'
      cases e'
    | some z =>
      rw [q] at e'
      cases e'
      rw [asInts_eq q]
      rfl
  | .none :: _, _, e => nomatch e
  | .bool _ :: _, _, e => nomatch e
  | .str _ :: _, _, e => nomatch e
  | .list _ :: _, _, e => nomatch e
  | .tuple _ :: _, _, e => nomatch e
  | .dict _ :: _, _, e => nomatch e
theorem alike_ints (ns : List Int) : AlikeAll (ns.map PyData.int) := by
  refine ⟨fun x hx y hy => ?_, fun x hx => ?_⟩
  · obtain ⟨i, _, rfl⟩ := List.mem_map.mp hx
    obtain ⟨j, _, rfl⟩ := List.mem_map.mp hy
    rfl
  · obtain ⟨i, _, rfl⟩ := List.mem_map.mp hx
    exact fun z => nomatch z
theorem depth_int : ∀ ns : List Int, PyData.depthAll (ns.map PyData.int) = 0
  | [] => by simp only [List.map_nil, PyData.depthAll]
  | n :: r => by simp only [List.map_cons, PyData.depthAll, PyData.depth, depth_int r, Nat.max_self]
theorem best_ent {f : Int → Int → Int} {xs : List V} {H : Hp} {Q : VK} (h : rC X.K E (bBest f) xs H Q) :
    ∃ (a : Addr) (vs : List V) (n : Int) (r : List Int), xs = [V.ref a] ∧ (H a = some (.lst vs) ∨ SqT X.K H a vs) ∧ Dqs X.K H vs ((n :: r).map PyData.int) ∧ Q (.int (r.foldl f n)) H := by
  obtain ⟨W, μ, ss, r, R, rs, e, q⟩ := h
  unfold bBest at e
  split at e
  · obtain ⟨x, rfl, h⟩ := rels1 rs
    obtain ⟨d, e1, e⟩ := rd_bind e
    obtain ⟨d', z1, h1⟩ := rd_rel R h e1
    cases z1
    split at e
    · obtain ⟨ns, e2, e⟩ := orFail_some e
      cases ns with
      | nil => cases e
      | cons n r =>
        cases e
        have z := asInts_eq e2
        subst z
        cases h1 with
        | lst h2 r2 => exact ⟨_, _, n, r, rfl, .inl h2, r2, q _ _ (Grow.refl _ _ _) R _ (.int _)⟩
    · obtain ⟨ns, e2, e⟩ := orFail_some e
      cases ns with
      | nil => cases e
      | cons n r =>
        cases e
        have z := asInts_eq e2
        subst z
        cases h1 with
        | tup h2 r2 => exact ⟨_, _, n, r, rfl, .inr h2, r2, q _ _ (Grow.refl _ _ _) R _ (.int _)⟩
    · cases e
  · cases e
abbrev bMaxA := bBest max
abbrev bMinA := bBest min
theorem b_maxA (hu : X.A.units + 64 < cLine) (hc : X.calm = true := by rfl) : CallR X (.builtin "max") (rC X.K E bMaxA) := by
  intro pins s σ H xs us Q I rv h
  obtain ⟨a, vs, n, r, rfl, hs, hd, q⟩ := best_ent h
  obtain ⟨u, rfl, rx⟩ := vals1 rv
  cases rx
  have dp := depth_int (n :: r)
  have fin : ∀ v h' tk bs, Reads h' v (maxD (.int n) (r.map .int)) bs → (∀ b o, s.heap.get? b = some o → h'.get? b = some o) → EP X pins σ Q v { s with heap := h', toks := tk } := fun v h' tk bs rd k => by
    rw [maxD_ints] at rd
    cases rd with
    | int i t => exact ⟨.int _, H, I.kept k, ⟨_, rfl⟩, q⟩
  rcases hs with hs | hs
  · obtain ⟨its, rv2, ht, hz⟩ := I.list (SqL.of hs)
    obtain ⟨as, hr, _⟩ := Dqs.reads I hd rv2
    exact max_list_data (vs := its.toArray) (I.ok.hd hc) ht.isList hr (alike_ints (n :: r)) (by rw [show PyData.depthAll (PyData.int n :: r.map PyData.int) = 0 from dp]; omega) fun i v h' tk bs _ rd k => fin v h' tk bs rd k
  · obtain ⟨its, rv2, ht, hz⟩ := I.tuple hs
    obtain ⟨as, hr, _⟩ := Dqs.reads I hd rv2
    exact max_tuple_data (vs := its.toArray) (I.ok.hd hc) ht hr (alike_ints (n :: r)) (by rw [show PyData.depthAll (PyData.int n :: r.map PyData.int) = 0 from dp]; omega) fun i v h' tk bs _ rd k => fin v h' tk bs rd k
theorem b_minA (hu : X.A.units + 64 < cLine) (hc : X.calm = true := by rfl) : CallR X (.builtin "min") (rC X.K E bMinA) := by
  intro pins s σ H xs us Q I rv h
  obtain ⟨a, vs, n, r, rfl, hs, hd, q⟩ := best_ent h
  obtain ⟨u, rfl, rx⟩ := vals1 rv
  cases rx
  have dp := depth_int (n :: r)
  have fin : ∀ v h' tk bs, Reads h' v (minD (.int n) (r.map .int)) bs → (∀ b o, s.heap.get? b = some o → h'.get? b = some o) → EP X pins σ Q v { s with heap := h', toks := tk } := fun v h' tk bs rd k => by
    rw [minD_ints] at rd
    cases rd with
    | int i t => exact ⟨.int _, H, I.kept k, ⟨_, rfl⟩, q⟩
  rcases hs with hs | hs
  · obtain ⟨its, rv2, ht, hz⟩ := I.list (SqL.of hs)
    obtain ⟨as, hr, _⟩ := Dqs.reads I hd rv2
    exact min_list_data (vs := its.toArray) (I.ok.hd hc) ht.isList hr (alike_ints (n :: r)) (by rw [show PyData.depthAll (PyData.int n :: r.map PyData.int) = 0 from dp]; omega) fun i v h' tk bs _ rd k => fin v h' tk bs rd k
  · obtain ⟨its, rv2, ht, hz⟩ := I.tuple hs
    obtain ⟨as, hr, _⟩ := Dqs.reads I hd rv2
    exact min_tuple_data (vs := its.toArray) (I.ok.hd hc) ht hr (alike_ints (n :: r)) (by rw [show PyData.depthAll (PyData.int n :: r.map PyData.int) = 0 from dp]; omega) fun i v h' tk bs _ rd k => fin v h' tk bs rd k
/-- e in a list of data -/
def pIn (a b : Sv) : M Sv := (rd a).bind fun d => (rd b).bind fun e => match e with
  | .list ds => if (SeqAt.shaped d && SeqAt.shaped (.list ds)) = true then M.ret (.dat (.bool (ds.any fun z => PyData.eqv z d))) else M.fail
  | _ => M.fail
theorem o_in (hu : X.A.units + 65 < cLine) : OpR X (compareOp .In) (rO2 X.K E pIn) := opr_weak (op_inD hu) fun x y H Q ⟨W, μ, a, b, r, R, ra, rb, e, q⟩ => by
  unfold pIn at e
  obtain ⟨d, e1, e⟩ := rd_bind e
  obtain ⟨c, e2, e⟩ := rd_bind e
  obtain ⟨d', z1, h1⟩ := rd_rel R ra e1
  obtain ⟨c', z2, h2⟩ := rd_rel R rb e2
  cases z1
  cases z2
  split at e
  · obtain ⟨g, e⟩ := iff_ok e
    obtain ⟨g1, g2⟩ := Bool.and_eq_true_iff.mp g
    cases e
    exact ⟨d, _, h1.dp (SeqAt.canLay_of_shaped g1), h2.dp (SeqAt.canLay_of_shaped g2), g1, g2, q _ _ (Grow.refl _ _ _) R _ (.bl _)⟩
  · cases e
end
end Pf
namespace Pf
open PySem L2
theorem units65 {k : Nat} {A : Around} (hr : Room k A) : A.units + 65 < cLine := by
  have := hr.un
  omega
end Pf

set_option maxHeartbeats 1000000
namespace Pf
open PySem PySem.Spec PyProof.Rows L2
/-! ### the laws' own falls of pushes (law texts of the falls) -/
theorem app_at {Fa F : Rho → M Sv} {ρ : Rho} {μ μ1 : Mu} {t : Nat} {a0 acc : List Sv} {x : Sv} (h : Fa ρ μ = some (.ok (.ref t) μ)) (h0 : μ[t]? = some (.lst a0)) (h1 : F ρ μ = some (.ok x μ1)) (h2 : μ1[t]? = some (.lst acc)) (hl : acc.length ≤ 1000) :
    gExpr (appV Fa F) ρ μ = some (.ok (.nx ρ) (μ1.set t (.lst (acc ++ [x])))) := by
  have c1 : tagOf (.ref t) μ = some (.ok (t, a0) μ) := by
    unfold tagOf
    simp only [h0]
  have c2 : tagOf (.ref t) μ1 = some (.ok (t, acc) μ1) := by
    unfold tagOf
    simp only [h2]
  have sz : szOk (acc.length + 1) = true := decide_eq_true (by omega)
  unfold gExpr appV
  rw [bind_ok (a := .dat .none) (μ' := μ1.set t (.lst (acc ++ [x])))]
  · rfl
  · rw [bind_ok h, bind_ok c1, bind_ok h1, bind_ok c2, iteM, if_pos sz]
    rfl
def maxI : List Int → Int
  | [] => 0
  | [a] => a
  | a :: b :: r => max a (maxI (b :: r))
def minI : List Int → Int
  | [] => 0
  | [a] => a
  | a :: b :: r => min a (minI (b :: r))
theorem maxI_mem : ∀ {ns : List Int}, ns ≠ [] → maxI ns ∈ ns
  | [], h => absurd rfl h
  | [a], _ => List.mem_singleton.mpr rfl
  | a :: b :: r, _ => by
    have ih := maxI_mem (ns := b :: r) (by simp)
    show max a (maxI (b :: r)) ∈ _
    rcases Int.le_total a (maxI (b :: r)) with h | h
    · rw [Int.max_eq_right h]
      exact List.mem_cons_of_mem _ ih
    · rw [Int.max_eq_left h]
      exact List.mem_cons_self
theorem maxI_le : ∀ {ns : List Int} {y : Int}, y ∈ ns → y ≤ maxI ns
  | [a], y, h => by
    rw [List.mem_singleton.mp h]
    exact Int.le_refl _
  | a :: b :: r, y, h => by
    show y ≤ max a (maxI (b :: r))
    rcases List.mem_cons.mp h with z | z
    · rw [z]
      exact Int.le_max_left ..
    · exact Int.le_trans (maxI_le (ns := b :: r) z) (Int.le_max_right ..)
theorem minI_mem : ∀ {ns : List Int}, ns ≠ [] → minI ns ∈ ns
  | [], h => absurd rfl h
  | [a], _ => List.mem_singleton.mpr rfl
  | a :: b :: r, _ => by
    have ih := minI_mem (ns := b :: r) (by simp)
    show min a (minI (b :: r)) ∈ _
    rcases Int.le_total a (minI (b :: r)) with h | h
    · rw [Int.min_eq_left h]
      exact List.mem_cons_self
    · rw [Int.min_eq_right h]
      exact List.mem_cons_of_mem _ ih
theorem minI_le : ∀ {ns : List Int} {y : Int}, y ∈ ns → minI ns ≤ y
  | [a], y, h => by
    rw [List.mem_singleton.mp h]
    exact Int.le_refl _
  | a :: b :: r, y, h => by
    show min a (minI (b :: r)) ≤ y
    rcases List.mem_cons.mp h with z | z
    · rw [z]
      exact Int.min_le_left ..
    · exact Int.le_trans (Int.min_le_right ..) (minI_le (ns := b :: r) z)
theorem fold_min (n : Int) : ∀ r : List Int, r.foldl min n = minI (n :: r)
  | [] => rfl
  | a :: r => by
    show r.foldl min (min n a) = _
    rw [fold_min (min n a) r]
    cases r with
    | nil => rfl
    | cons b r =>
      show min (min n a) (minI (b :: r)) = min n (min a (minI (b :: r)))
      omega
theorem fold_max (n : Int) : ∀ r : List Int, r.foldl max n = maxI (n :: r)
  | [] => rfl
  | a :: r => by
    show r.foldl max (max n a) = _
    rw [fold_max (max n a) r]
    cases r with
    | nil => rfl
    | cons b r =>
      show max (max n a) (maxI (b :: r)) = max n (max a (maxI (b :: r)))
      omega
abbrev Rows' := List (Int × Int)
def fallAt (rows : Rows') (ps : Rows') (m : Nat) : Int := minI (ps.map fun p => p.2 + dist rows p.1.toNat m)
def matD' (rows : Rows') : PyData := .list ((List.range (rows.length + 1)).map fun i => .list ((List.range (rows.length + 1)).map fun j => .int (dist rows i j)))
def pushD (ps : Rows') : PyData := .list (ps.map rowD)
def fallsD (rows ps : Rows') : PyData := .tuple ((List.range (rows.length + 1)).map fun m => .int (fallAt rows ps m))
theorem min_at {F : Rho → M Sv} {ρ : Rho} {μ μ1 : Mu} {ns : List Int} (h : F ρ μ = some (.ok (.dat (.list (ns.map .int))) μ1)) (hn : ns ≠ []) : callV bMinA (argC F argN) ρ μ = some (.ok (svI (minI ns)) μ1) := by
  rw [callV1_at h]
  cases ns with
  | nil => exact absurd rfl hn
  | cons n r =>
    have e : asInts ((n :: r).map PyData.int) = some (n :: r) := ints_map (n :: r)
    unfold bMinA bBest
    dsimp only
    rw [bind_ok (show rd (.dat (.list ((n :: r).map .int))) μ1 = some (.ok (.list ((n :: r).map .int)) μ1) from rfl)]
    dsimp only
    rw [e]
    show some (Res.ok (svI (r.foldl min n)) μ1) = _
    rw [fold_min]
def Gfalls : Rho → M Out :=
  (gSeq (gSet 2 (lstV true argN))
  (gSeq (gFor (rngV (callV bLen (argC (slot 0) argN))) (gNm 3)
  (gExpr (appV (slot 2) (callV bMinA (argC (lcV false [4] (seqV (slot 1)) (gNm 4) yes (bin (pAdd false) (bin pIx (slot 4) (con (.int 1))) (bin pIx (bin pIx (slot 0) (bin pIx (slot 4) (con (.int 0)))) (slot 3)))) argN)))))
  (gRet (callV bTuple (argC (slot 2) argN)))))
theorem run_falls {rows ps : Rows'} (hl : rows.length ≤ 11) (hp : ps ≠ []) (hp2 : ps.length ≤ 100) (hb : ∀ p ∈ ps, 0 ≤ p.1 ∧ p.1 ≤ rows.length) (μ : Mu) :
    Gfalls [some (.dat (matD' rows)), some (.dat (pushD ps)), none, none, none] μ = some (.ok (.rt (.dat (fallsD rows ps))) (μ ++ [.lst ((List.range (rows.length + 1)).map fun m => svI (fallAt rows ps m))])) := by
  unfold Gfalls
  rw [seq_at (ρ' := [some (.dat (matD' rows)), some (.dat (pushD ps)), some (.ref μ.length), none, none]) (μ' := μ ++ [.lst []]) rfl]
  have hr : rngV (callV bLen (argC (slot 0) argN)) [some (.dat (matD' rows)), some (.dat (pushD ps)), some (.ref μ.length), none, none] (μ ++ [.lst []]) = some (.ok (fromTo 0 (rows.length + 1)) (μ ++ [.lst []])) := by
    have c : callV bLen (argC (slot 0) argN) [some (.dat (matD' rows)), some (.dat (pushD ps)), some (.ref μ.length), none, none] (μ ++ [.lst []]) = some (.ok (svI ((rows.length + 1 : Nat) : Int)) (μ ++ [.lst []])) := by
      rw [callV1_at (show slot 0 _ (μ ++ [.lst []]) = some (.ok (.dat (matD' rows)) (μ ++ [.lst []])) from rfl)]
      have := blen_at ((List.range (rows.length + 1)).map fun i => PyData.list ((List.range (rows.length + 1)).map fun j => .int (dist rows i j))) (μ ++ [.lst []])
      rwa [List.length_map, List.length_range] at this
    have := rng_at c (by omega) (by omega)
    rwa [Int.toNat_natCast] at this
  obtain ⟨ρ', μ', e, o3, rfl, rfl⟩ := for_inv (T := gNm 3) (B := gExpr (appV (slot 2) (callV bMinA (argC (lcV false [4] (seqV (slot 1)) (gNm 4) yes (bin (pAdd false) (bin pIx (slot 4) (con (.int 1))) (bin pIx (bin pIx (slot 0) (bin pIx (slot 4) (con (.int 0)))) (slot 3)))) argN))))
    (fun i ρ μ' => ∃ o3, ρ = [some (.dat (matD' rows)), some (.dat (pushD ps)), some (.ref μ.length), o3, none] ∧ μ' = μ ++ [.lst ((List.range i).map fun m => svI (fallAt rows ps m))]) hr (fun i d ρ μ' hd hI => by
      obtain ⟨o3, rfl, rfl⟩ := hI
      obtain ⟨hi, rfl⟩ := fromTo_at hd
      rw [Int.zero_add]
      have lc : lcV false [4] (seqV (slot 1)) (gNm 4) yes (bin (pAdd false) (bin pIx (slot 4) (con (.int 1))) (bin pIx (bin pIx (slot 0) (bin pIx (slot 4) (con (.int 0)))) (slot 3))) [some (.dat (matD' rows)), some (.dat (pushD ps)), some (.ref μ.length), some (svI (i : Nat)), none] (μ ++ [.lst ((List.range i).map fun m => svI (fallAt rows ps m))]) =
          some (.ok (.dat (.list ((ps.map fun p => p.2 + dist rows p.1.toNat i).map .int))) (μ ++ [.lst ((List.range i).map fun m => svI (fallAt rows ps m))])) := by
        rw [lcV_at (fun d => match d with
          | .tuple [.int a, .int b] => .dat (.int (b + dist rows a.toNat i))
          | _ => .dat .none) (show seqV (slot 1) _ _ = some (.ok (ps.map rowD) _) from rfl) (show (ps.map rowD).length ≤ 1000000 by rw [List.length_map]; omega)]
        · rw [List.map_map, List.map_map]
          exact mkl_mapD ps (fun p => .int (p.2 + dist rows p.1.toNat i)) _
        · intro d hd
          obtain ⟨p, hpp, rfl⟩ := List.mem_map.mp hd
          have b := hb p hpp
          refine ⟨_, rfl, ?_⟩
          generalize (μ ++ [MObj.lst ((List.range i).map fun m => svI (fallAt rows ps m))]) = μ2
          have x1 : bin pIx (slot 0) (bin pIx (slot 4) (con (.int 0))) [some (.dat (matD' rows)), some (.dat (pushD ps)), some (.ref μ.length), some (svI (i : Nat)), some (.dat (rowD p))] μ2 = some (.ok (.dat (.list ((List.range (rows.length + 1)).map fun j => .int (dist rows p.1.toNat j)))) μ2) := by
            rw [bin_at (show slot 0 _ μ2 = some (.ok (.dat (matD' rows)) μ2) from rfl) (show bin pIx (slot 4) (con (.int 0)) _ μ2 = some (.ok (svI p.1) μ2) from rfl)]
            have := lix_at (atI_range (fun i => PyData.list ((List.range (rows.length + 1)).map fun j => .int (dist rows i j))) (show p.1.toNat < rows.length + 1 by omega)) μ2
            rwa [Int.toNat_of_nonneg b.1] at this
          have x2 : bin pIx (bin pIx (slot 0) (bin pIx (slot 4) (con (.int 0)))) (slot 3) [some (.dat (matD' rows)), some (.dat (pushD ps)), some (.ref μ.length), some (svI (i : Nat)), some (.dat (rowD p))] μ2 = some (.ok (svI (dist rows p.1.toNat i)) μ2) := by
            rw [bin_at x1 (show slot 3 _ μ2 = some (.ok (svI (i : Nat)) μ2) from rfl)]
            exact lix_at (atI_range (fun j => PyData.int (dist rows p.1.toNat j)) hi) μ2
          show bin (pAdd false) _ _ [some (.dat (matD' rows)), some (.dat (pushD ps)), some (.ref μ.length), some (svI (i : Nat)), some (.dat (rowD p))] μ2 = _
          rw [bin_at (show bin pIx (slot 4) (con (.int 1)) _ μ2 = some (.ok (svI p.2) μ2) from rfl) x2]
          rfl
      have mn := min_at lc (by simpa using hp)
      have ap := app_at (Fa := slot 2) (ρ := [some (.dat (matD' rows)), some (.dat (pushD ps)), some (.ref μ.length), some (svI (i : Nat)), none]) (t := μ.length) rfl a0 mn a0 (by rw [List.length_map, List.length_range]; omega)
      refine ⟨_, _, _, _, rfl, .inl ap, some (svI (i : Nat)), rfl, ?_⟩
      rw [b0, List.range_succ, List.map_append]
      rfl) ⟨none, rfl, rfl⟩
  rw [seq_at e, fromTo_len]
  refine ret_gives ?_
  rw [callV1_at (a := .ref μ.length) (μ1 := μ ++ [.lst ((List.range (rows.length + 1)).map fun m => svI (fallAt rows ps m))]) rfl]
  have ls : lsOf (.ref μ.length) (μ ++ [.lst ((List.range (rows.length + 1)).map fun m => svI (fallAt rows ps m))]) = some (.ok ((List.range (rows.length + 1)).map fun m => svI (fallAt rows ps m)) (μ ++ [.lst ((List.range (rows.length + 1)).map fun m => svI (fallAt rows ps m))])) := by
    unfold lsOf
    simp only [a0]
  show M.bind (lsOf (.ref μ.length)) mkt _ = _
  rw [bind_ok ls]
  have dm : dats ((List.range (rows.length + 1)).map fun m => svI (fallAt rows ps m)) = some ((List.range (rows.length + 1)).map fun m => PyData.int (fallAt rows ps m)) := by
    have := dats_map ((List.range (rows.length + 1)).map fun m => PyData.int (fallAt rows ps m))
    rwa [List.map_map] at this
  unfold mkt
  rw [dm]
  rfl
end Pf

set_option maxHeartbeats 1000000
namespace Pf
open PySem PySem.Spec PyProof.Rows L2
/-! ### the laws' own drawn tables -/
def Ffalls : List Sv → M Sv := strip 5 Gfalls
def Gtable : Rho → M Out :=
  (gSeq (gSet 2 (bin pIx (lstV false (argC (con (.int 3)) (argC (con (.int 40)) (argC (bin pPow (con (.int 10)) (con (.int 6))) (argC (bin pPow (con (.int 10)) (con (.int 9))) argN))))) (callF Fdraw 2 (argC (slot 0) (argC (con (.int 4)) argN)))))
  (gSeq (gSet 3 (lstV true argN))
  (gSeq (gFor (rngV (bin (pAdd false) (con (.int 1)) (callF Fdraw 2 (argC (slot 0) (argC (bin (pMul false) (con (.int 2)) (callV bLen (argC (slot 1) argN))) argN))))) (gNm 4)
  (gExpr (appV (slot 3) (tupV (argC (callF Fdraw 2 (argC (slot 0) (argC (callV bLen (argC (slot 1) argN)) argN))) (argC (callF Fdraw 2 (argC (slot 0) (argC (slot 2) argN))) argN))))))
  (gSeq (gSet 5 (bin pIx (lstV false (argC (con (.int 0)) (argC (con (.int 0)) (argC (bin pSub (bin pPow (con (.int 10)) (con (.int 9))) (slot 2)) argN)))) (callF Fdraw 2 (argC (slot 0) (argC (con (.int 3)) argN)))))
  (gRet (callV bTuple (argC (lcV false [6] (seqV (callF Ffalls 2 (argC (slot 1) (argC (frzV (slot 3)) argN)))) (gNm 6) yes (bin (pAdd false) (slot 6) (slot 5))) argN)))))))
def Ftable : List Sv → M Sv := strip 7 Gtable
theorem Deck.push {n : Int} {rest μ : Mu} (D : Deck n rest μ) (o : Mu) : Deck n (rest ++ o) (μ ++ o) := by
  obtain ⟨cs, h1, h2, rfl⟩ := D.ex
  exact ⟨cs, h1, h2, rfl⟩
theorem Deck.len {n : Int} {rest μ : Mu} (D : Deck n rest μ) : μ.length = 2 + rest.length := by
  obtain ⟨cs, h1, h2, rfl⟩ := D.ex
  show rest.length + 1 + 1 = _
  omega
theorem Deck.last {n : Int} {rest μ : Mu} {o : MObj} (D : Deck n (rest ++ [o]) μ) : μ[2 + rest.length]? = some o := by
  obtain ⟨cs, h1, h2, rfl⟩ := D.ex
  show (deckMu cs n (rest ++ [o]))[2 + rest.length]? = _
  unfold deckMu
  rw [Nat.add_comm, List.getElem?_cons_succ, List.getElem?_cons_succ, List.getElem?_append_right (Nat.le_refl _), Nat.sub_self]
  rfl
theorem Deck.put {n : Int} {rest μ : Mu} {o : MObj} (D : Deck n (rest ++ [o]) μ) (o' : MObj) : Deck n (rest ++ [o']) (μ.set (2 + rest.length) o') := by
  obtain ⟨cs, h1, h2, rfl⟩ := D.ex
  refine ⟨cs, h1, h2, ?_⟩
  unfold deckMu
  rw [Nat.add_comm, List.set_cons_succ, List.set_cons_succ, List.set_append_right _ _ (Nat.le_refl _), Nat.sub_self]
  rfl
theorem far_len {rows : Rows'} (μ : Mu) (ρ : Rho) (h : slot 1 ρ μ = some (.ok (.dat (matD' rows)) μ)) : callV bLen (argC (slot 1) argN) ρ μ = some (.ok (svI ((rows.length : Int) + 1)) μ) := by
  rw [callV1_at h]
  have := blen_at ((List.range (rows.length + 1)).map fun i => PyData.list ((List.range (rows.length + 1)).map fun j => .int (dist rows i j))) μ
  rw [List.length_map, List.length_range] at this
  exact this
theorem table_ok {rows : Rows'} (ok : TreeOk rows) (hl : rows.length ≤ 11) {n : Int} {rest μ : Mu} (D : Deck n rest μ) (h0 : 0 ≤ n) (h1 : n < 10 ^ 9) :
    ∃ (T : List Int) (μ' : Mu) (n' : Int) (rest' : Mu), Ftable [.ref 1, .dat (matD' rows)] μ = some (.ok (.dat (.tuple (T.map .int))) μ') ∧ T.length = rows.length + 1 ∧ (∀ x ∈ T, 0 ≤ x ∧ x ≤ 3000000000) ∧ Deck n' rest' μ' ∧ n ≤ n' ∧ n' ≤ n + 60 := by
  obtain ⟨a, μ1, e1, a0, a1, D1⟩ := draw_ok D h0 (by omega) (L := 4) (by omega) (by omega)
  obtain ⟨late, hlate, el⟩ := atI_mem (xs := [(3 : Int), 40, 1000000, 1000000000]) a0 (show a < ((4 : Nat) : Int) from a1)
  have bl : 1 ≤ late ∧ late ≤ 1000000000 := by
    rcases List.mem_cons.mp hlate with rfl | h
    · omega
    · rcases List.mem_cons.mp h with rfl | h
      · omega
      · rcases List.mem_cons.mp h with rfl | h
        · omega
        · rw [List.mem_singleton.mp h]
          omega
  have el2 : atI [PyData.int 3, .int 40, .int 1000000, .int 1000000000] a = some (.int late) := atI_map (f := PyData.int) el
  have D2 : Deck (n + 1) (rest ++ [.lst []]) (μ1 ++ [.lst []]) := D1.push _
  have ht : μ1.length = 2 + rest.length := D1.len
  obtain ⟨c, μ2, e2, c0, c1, D3⟩ := draw_ok D2 (by omega) (by omega) (L := 2 * ((rows.length : Int) + 1)) (by omega) (by omega)
  have q1 : (gSet 2 (bin pIx (lstV false (argC (con (.int 3)) (argC (con (.int 40)) (argC (bin pPow (con (.int 10)) (con (.int 6))) (argC (bin pPow (con (.int 10)) (con (.int 9))) argN))))) (callF Fdraw 2 (argC (slot 0) (argC (con (.int 4)) argN))))) [some (.ref 1), some (.dat (matD' rows)), none, none, none, none, none] μ =
      some (.ok (.nx [some (.ref 1), some (.dat (matD' rows)), some (svI late), none, none, none, none]) μ1) := by
    refine gset_at ?_
    rw [bin_at (show lstV false _ _ μ = some (.ok (.dat (.list [.int 3, .int 40, .int 1000000, .int 1000000000])) μ) from rfl) ((call2_at rfl rfl).trans e1)]
    exact lix_at el2 μ1
  have q3 : rngV (bin (pAdd false) (con (.int 1)) (callF Fdraw 2 (argC (slot 0) (argC (bin (pMul false) (con (.int 2)) (callV bLen (argC (slot 1) argN))) argN)))) [some (.ref 1), some (.dat (matD' rows)), some (svI late), some (.ref μ1.length), none, none, none] (μ1 ++ [.lst []]) = some (.ok (fromTo 0 (1 + c).toNat) μ2) := by
    refine rng_at ?_ (by omega) (by omega)
    have m : bin (pMul false) (con (.int 2)) (callV bLen (argC (slot 1) argN)) [some (.ref 1), some (.dat (matD' rows)), some (svI late), some (.ref μ1.length), none, none, none] (μ1 ++ [.lst []]) = some (.ok (svI (2 * ((rows.length : Int) + 1))) (μ1 ++ [.lst []])) := by
      rw [bin_at (show con (.int 2) _ (μ1 ++ [.lst []]) = some (.ok (svI 2) (μ1 ++ [.lst []])) from rfl) (far_len _ _ rfl)]
      rfl
    rw [bin_at (show con (.int 1) _ (μ1 ++ [.lst []]) = some (.ok (svI 1) (μ1 ++ [.lst []])) from rfl) ((call2_at (show slot 0 _ (μ1 ++ [.lst []]) = some (.ok (.ref 1) (μ1 ++ [.lst []])) from rfl) m).trans e2)]
    rfl
  obtain ⟨ρ', μ3, e3, ps, o4, hps, hb, rfl, D4⟩ := for_inv (T := gNm 4) (B := (gExpr (appV (slot 3) (tupV (argC (callF Fdraw 2 (argC (slot 0) (argC (callV bLen (argC (slot 1) argN)) argN))) (argC (callF Fdraw 2 (argC (slot 0) (argC (slot 2) argN))) argN))))))
    (fun i ρ μ' => ∃ (ps : Rows') (o4 : Option Sv), ps.length = i ∧ (∀ p ∈ ps, (0 ≤ p.1 ∧ p.1 ≤ rows.length) ∧ 0 ≤ p.2 ∧ p.2 < late) ∧ ρ = [some (.ref 1), some (.dat (matD' rows)), some (svI late), some (.ref μ1.length), o4, none, none] ∧ Deck (n + 2 + 2 * (i : Int)) (rest ++ [.lst (ps.map fun p => .dat (rowD p))]) μ') q3 (fun i d ρ μ' hd hI => by
      obtain ⟨ps, o4, hps, hb, rfl, D'⟩ := hI
      obtain ⟨hi, rfl⟩ := fromTo_at hd
      rw [Int.zero_add]
      obtain ⟨x, μ4, e4, x0, x1, D5⟩ := draw_ok D' (by omega) (by omega) (L := (rows.length : Int) + 1) (by omega) (by omega)
      obtain ⟨y, μ5, e5, y0, y1, D6⟩ := draw_ok D5 (by omega) (by omega) (L := late) (by omega) (by omega)
      have F1 : tupV (argC (callF Fdraw 2 (argC (slot 0) (argC (callV bLen (argC (slot 1) argN)) argN))) (argC (callF Fdraw 2 (argC (slot 0) (argC (slot 2) argN))) argN)) [some (.ref 1), some (.dat (matD' rows)), some (svI late), some (.ref μ1.length), some (svI (i : Nat)), none, none] μ' = some (.ok (.dat (rowD (x, y))) μ5) :=
        tup_at [.int x, .int y] (args_c ((call2_at (show slot 0 _ μ' = some (.ok (.ref 1) μ') from rfl) (far_len μ' _ rfl)).trans e4) (args_c ((call2_at (show slot 0 _ μ4 = some (.ok (.ref 1) μ4) from rfl) (show slot 2 _ μ4 = some (.ok (svI late) μ4) from rfl)).trans e5) args_n)) rfl (by show 2 ≤ 1000000; decide)
      have ap := app_at (Fa := slot 3) (ρ := [some (.ref 1), some (.dat (matD' rows)), some (svI late), some (.ref μ1.length), some (svI (i : Nat)), none, none]) (t := μ1.length) rfl (by rw [ht]; exact D'.last) F1 (by rw [ht]; exact D6.last) (by rw [List.length_map]; omega)
      refine ⟨_, _, _, _, rfl, .inl ap, ps ++ [(x, y)], some (svI (i : Nat)), by rw [List.length_append, hps, List.length_singleton], fun p hp => ?_, rfl, ?_⟩
      · rcases List.mem_append.mp hp with hp | hp
        · exact hb p hp
        · rw [List.mem_singleton.mp hp]
          exact ⟨⟨x0, by show x ≤ _; omega⟩, y0, y1⟩
      · have D7 := D6.put (.lst ((ps.map fun p => Sv.dat (rowD p)) ++ [.dat (rowD (x, y))]))
        rw [ht, List.map_append]
        have en : n + 2 + 2 * (i : Int) + 1 + 1 = n + 2 + 2 * ((i + 1 : Nat) : Int) := by omega
        rw [← en]
        exact D7) ⟨[], none, rfl, fun p hp => (nomatch hp), rfl, by
          have en : n + 2 + 2 * ((0 : Nat) : Int) = n + 1 + 1 := by omega
          rw [en]
          exact D3⟩
  rw [fromTo_len] at hps D4
  obtain ⟨b, μ4, e4, b0', b1', D5⟩ := draw_ok D4 (by omega) (by omega) (L := 3) (by omega) (by omega)
  obtain ⟨first, hfirst, ef⟩ := atI_mem (xs := [(0 : Int), 0, 1000000000 - late]) b0' (show b < ((3 : Nat) : Int) from b1')
  have bf : 0 ≤ first ∧ first ≤ 1000000000 := by
    rcases List.mem_cons.mp hfirst with rfl | h
    · omega
    · rcases List.mem_cons.mp h with rfl | h
      · omega
      · rw [List.mem_singleton.mp h]
        omega
  have ef2 : atI [PyData.int 0, .int 0, .int (1000000000 - late)] b = some (.int first) := atI_map (f := PyData.int) ef
  have q4 : (gSet 5 (bin pIx (lstV false (argC (con (.int 0)) (argC (con (.int 0)) (argC (bin pSub (bin pPow (con (.int 10)) (con (.int 9))) (slot 2)) argN)))) (callF Fdraw 2 (argC (slot 0) (argC (con (.int 3)) argN))))) [some (.ref 1), some (.dat (matD' rows)), some (svI late), some (.ref μ1.length), o4, none, none] μ3 =
      some (.ok (.nx [some (.ref 1), some (.dat (matD' rows)), some (svI late), some (.ref μ1.length), o4, some (svI first), none]) μ4) := by
    refine gset_at ?_
    rw [bin_at (show lstV false _ _ μ3 = some (.ok (.dat (.list [.int 0, .int 0, .int (1000000000 - late)])) μ3) from rfl) ((call2_at rfl rfl).trans e4)]
    exact lix_at ef2 μ4
  have hne : ps ≠ [] := fun z => by
    rw [z] at hps
    have hps' : 0 = (1 + c).toNat := hps
    omega
  let μ5 : Mu := μ4.set (2 + rest.length) .gone
  have D6 : Deck (n + 2 + 2 * ((1 + c).toNat : Int) + 1) (rest ++ [.gone]) μ5 := D5.put .gone
  have dm : dats (ps.map fun p => Sv.dat (rowD p)) = some (ps.map rowD) := by
    have := dats_map (ps.map rowD)
    rwa [List.map_map] at this
  have fz : frzV (slot 3) [some (.ref 1), some (.dat (matD' rows)), some (svI late), some (.ref μ1.length), o4, some (svI first), none] μ4 = some (.ok (.dat (pushD ps)) μ5) := by
    show frz (.ref μ1.length) μ4 = _
    unfold frz
    rw [ht]
    simp only [D5.last, dm]
    rfl
  have rf := run_falls hl hne (by omega) (fun p hp => (hb p hp).1) μ5
  let μ6 : Mu := μ5 ++ [.lst ((List.range (rows.length + 1)).map fun m => svI (fallAt rows ps m))]
  have cf : callF Ffalls 2 (argC (slot 1) (argC (frzV (slot 3)) argN)) [some (.ref 1), some (.dat (matD' rows)), some (svI late), some (.ref μ1.length), o4, some (svI first), none] μ4 = some (.ok (.dat (fallsD rows ps)) μ6) :=
    (call2_at (show slot 1 _ μ4 = some (.ok (.dat (matD' rows)) μ4) from rfl) fz).trans (strip_rt rf)
  let T : List Int := (List.range (rows.length + 1)).map fun m => fallAt rows ps m + first
  have lc : lcV false [6] (seqV (callF Ffalls 2 (argC (slot 1) (argC (frzV (slot 3)) argN)))) (gNm 6) yes (bin (pAdd false) (slot 6) (slot 5)) [some (.ref 1), some (.dat (matD' rows)), some (svI late), some (.ref μ1.length), o4, some (svI first), none] μ4 = some (.ok (.dat (.list (T.map .int))) μ6) := by
    have sq : seqV (callF Ffalls 2 (argC (slot 1) (argC (frzV (slot 3)) argN))) [some (.ref 1), some (.dat (matD' rows)), some (svI late), some (.ref μ1.length), o4, some (svI first), none] μ4 = some (.ok ((List.range (rows.length + 1)).map fun m => PyData.int (fallAt rows ps m)) μ6) := by
      unfold seqV
      rw [bind_ok cf]
      rfl
    rw [lcV_at (fun d => match d with
      | .int x => .dat (.int (x + first))
      | _ => .dat .none) sq (by rw [List.length_map, List.length_range]; omega)]
    · show mkl false (List.map _ (List.map _ _)) μ6 = _
      rw [List.map_map, List.map_map]
      exact mkl_mapD (List.range (rows.length + 1)) (fun m => .int (fallAt rows ps m + first)) μ6
    · intro d hd
      obtain ⟨m, _, rfl⟩ := List.mem_map.mp hd
      exact ⟨_, rfl, rfl⟩
  refine ⟨T, μ6, _, rest ++ [.gone] ++ [.lst ((List.range (rows.length + 1)).map fun m => svI (fallAt rows ps m))], strip_rt ?_, by rw [List.length_map, List.length_range], fun x hx => ?_, D6.push _, by omega, by omega⟩
  · show Gtable [some (.ref 1), some (.dat (matD' rows)), none, none, none, none, none] μ = _
    unfold Gtable
    rw [seq_at q1, seq_at (ρ' := [some (.ref 1), some (.dat (matD' rows)), some (svI late), some (.ref μ1.length), none, none, none]) (μ' := μ1 ++ [.lst []]) rfl, seq_at e3, seq_at q4]
    refine ret_gives ?_
    rw [callV1_at lc]
    exact btup_at _ μ6
  · obtain ⟨m, hm, rfl⟩ := List.mem_map.mp hx
    have hm' : m < rows.length + 1 := List.mem_range.mp hm
    have mem := minI_mem (ns := ps.map fun p => p.2 + dist rows p.1.toNat m) (by simpa using hne)
    obtain ⟨p, hp, ep⟩ := List.mem_map.mp mem
    have bp := hb p hp
    have db := dist_bound ok _ p.1.toNat m (Nat.lt_succ_self _) (by omega) (by omega)
    have ef : fallAt rows ps m = p.2 + dist rows p.1.toNat m := ep.symm
    rw [ef]
    omega
end Pf

set_option maxHeartbeats 1000000
namespace Pf
open PySem PySem.Spec PyProof.Rows L2
/-! ### the laws' own needed pushes -/
theorem lcL_filter {T : Sv → Rho → M Rho} {C : Rho → M Bool} {Fe : Rho → M Sv} {ρ : Rho} {μ : Mu} (c : PyData → Bool) (g : PyData → Sv) : ∀ {ds : List PyData}, (∀ d ∈ ds, ∃ ρ1, T (.dat d) ρ μ = some (.ok ρ1 μ) ∧ C ρ1 μ = some (.ok (c d) μ) ∧ Fe ρ1 μ = some (.ok (g d) μ)) → lcL T C Fe ds ρ μ = some (.ok ((ds.filter c).map g) μ)
  | [], _ => rfl
  | d :: ds, h => by
    obtain ⟨ρ1, e1, e2, e3⟩ := h d List.mem_cons_self
    have ih := lcL_filter (T := T) (C := C) (Fe := Fe) (ρ := ρ) (μ := μ) c g (ds := ds) fun d hd => h d (List.mem_cons_of_mem _ hd)
    cases hc : c d with
    | true =>
      rw [hc] at e2
      rw [List.filter_cons_of_pos hc]
      simp only [lcL, M.bind, noEx, e1, e2, if_true, e3, ih, M.ret, List.map_cons]
    | false =>
      rw [hc] at e2
      rw [List.filter_cons_of_neg (by rw [hc]; exact Bool.false_ne_true)]
      simp only [lcL, M.bind, noEx, e1, e2, Bool.false_eq_true, if_false, ih]
theorem lcV_filter {vs : List Nat} {Fi : Rho → M (List PyData)} {T : Sv → Rho → M Rho} {C : Rho → M Bool} {Fe : Rho → M Sv} {ρ : Rho} {μ μ0 : Mu} {ds : List PyData} (c : PyData → Bool) (g : PyData → PyData) (e : Fi ρ μ0 = some (.ok ds μ)) (sz : ds.length ≤ 1000000)
    (h : ∀ d ∈ ds, ∃ ρ1, T (.dat d) (wipeR ρ vs) μ = some (.ok ρ1 μ) ∧ C ρ1 μ = some (.ok (c d) μ) ∧ Fe ρ1 μ = some (.ok (.dat (g d)) μ)) : lcV false vs Fi T C Fe ρ μ0 = some (.ok (.dat (.list ((ds.filter c).map g))) μ) := by
  unfold lcV
  rw [bind_ok e, iteM, if_pos (show szOk ds.length = true from decide_eq_true sz), bind_ok (lcL_filter c (fun d => .dat (g d)) h)]
  have := mkl_dat ((ds.filter c).map g) μ
  rwa [List.map_map] at this
theorem ones_lay : ∀ n : Nat, PyData.canLayAll0 (List.replicate n (.int 1)) = true
  | 0 => rfl
  | n + 1 => by
    rw [List.replicate_succ]
    simp only [PyData.canLayAll0, PyData.canLay0, ones_lay n, Bool.and_self]
theorem ones_depth : ∀ n : Nat, PyData.depthAll (List.replicate n (.int 1)) = 0
  | 0 => rfl
  | n + 1 => by
    rw [List.replicate_succ]
    simp only [PyData.depthAll, PyData.depth, ones_depth n, Nat.max_self]
theorem eq_none {xs : List PyData} (n : Nat) (h : xs = List.replicate n (.int 1)) (μ : Mu) : pEq (.dat (.list xs)) (.dat (.list [])) μ = some (.ok (.dat (.bool (decide (n = 0)))) μ) := by
  subst h
  have s1 : SeqAt.shaped (.list (List.replicate n (.int 1))) = true := by
    unfold SeqAt.shaped
    simp only [PyData.canLay0, PyData.depth, ones_lay, ones_depth]
    decide
  have s2 : SeqAt.shaped (.list []) = true := by decide
  show pEqD false (.dat (.list (List.replicate n (.int 1)))) (.dat (.list [])) μ = _
  unfold pEqD
  rw [bind_ok (show rd (.dat (.list (List.replicate n (.int 1)))) μ = some (.ok (.list (List.replicate n (.int 1))) μ) from rfl), bind_ok (show rd (.dat (.list [])) μ = some (.ok (.list []) μ) from rfl), iteM, s1, s2, Bool.and_self, if_pos rfl, Bool.false_xor]
  cases n with
  | zero => rfl
  | succ n =>
    rw [List.replicate_succ]
    simp [PyData.eqv, PyData.eqvAll, M.ret]
/-- the neighbours of a mark: its parent, then its children -/
def kids (rows : Rows') (m : Nat) (j : Nat) : Rows' := (List.range j).flatMap fun k => match rows[k]? with
  | some r => if r.1 = (m : Int) then [((k : Int) + 1, r.2)] else []
  | none => []
def nearR (rows : Rows') (m : Nat) : Rows' := (match rows[m - 1]? with
  | some r => if 0 < m then [r] else []
  | none => []) ++ kids rows m rows.length
def tabAt (T : List Int) (i : Int) : Int := (T[i.toNat]?).getD 0
def lateB (T : List Int) (m : Nat) (q : Int × Int) : Bool := decide (tabAt T q.1 + q.2 ≤ tabAt T (m : Nat))
def needsB (rows : Rows') (T : List Int) (m : Nat) : Bool := decide (((nearR rows m).filter (lateB T m)).length = 0)
def needR (rows : Rows') (T : List Int) (j : Nat) : Rows' := (List.range j).flatMap fun m => if needsB rows T m = true then [((m : Int), tabAt T (m : Nat))] else []
def tabD (T : List Int) : PyData := .tuple (T.map .int)
def Gneeded : Rho → M Out :=
  (gSeq (gSet 2 (lstV true argN))
  (gSeq (gFor (enuV (slot 1)) (gTp 2 (gsCons (gNm 3) (gsCons (gNm 4) gsNil)))
  (gSeq (gSet 5 (ifV (tst (bin pGt (slot 3) (con (.int 0)))) (lstV true (argC (bin pIx (slot 0) (bin pSub (slot 3) (con (.int 1)))) argN)) (lstV true argN)))
  (gSeq (gFor (enuV (slot 0)) (gTp 2 (gsCons (gNm 6) (gsCons (gNm 7) gsNil)))
  (gIf (tst (bin pEq (bin pIx (slot 7) (con (.int 0))) (slot 3)))
  (gExpr (appV (slot 5) (tupV (argC (bin (pAdd false) (slot 6) (con (.int 1))) (argC (bin pIx (slot 7) (con (.int 1))) argN)))))
  gSkip))
  (gIf (tst (bin pEq (lcV false [8, 9] (seqV (frzV (slot 5))) (gTp 2 (gsCons (gNm 8) (gsCons (gNm 9) gsNil))) (tst (bin pLe (bin (pAdd false) (bin pIx (slot 1) (slot 8)) (slot 9)) (slot 4))) (con (.int 1))) (lstV false argN)))
  (gExpr (appV (slot 2) (tupV (argC (slot 3) (argC (slot 4) argN)))))
  gSkip))))
  (gRet (callV bTuple (argC (slot 2) argN)))))
abbrev nS (rows : Rows') (T : List Int) (t : Nat) (o3 o4 o5 o6 o7 : Option Sv) : Rho := [some (.dat (treeD rows)), some (.dat (tabD T)), some (.ref t), o3, o4, o5, o6, o7, none, none]
theorem kids_succ (rows : Rows') (m j : Nat) {r : Int × Int} (h : rows[j]? = some r) : kids rows m (j + 1) = kids rows m j ++ (if r.1 = (m : Int) then [((j : Int) + 1, r.2)] else []) := by
  unfold kids
  rw [List.range_succ, List.flatMap_append]
  congr 1
  simp [h]
theorem need_succ (rows : Rows') (T : List Int) (j : Nat) : needR rows T (j + 1) = needR rows T j ++ (if needsB rows T j = true then [((j : Int), tabAt T (j : Nat))] else []) := by
  unfold needR
  rw [List.range_succ, List.flatMap_append]
  congr 1
  simp
theorem app_last {α : Type} (xs : List α) (x y : α) : (xs ++ [x]).set xs.length y = xs ++ [y] := by
  rw [List.set_append_right _ _ (Nat.le_refl _), Nat.sub_self]
  rfl
theorem get_last {α : Type} (xs : List α) (x : α) : (xs ++ [x])[xs.length]? = some x := by
  rw [List.getElem?_append_right (Nat.le_refl _), Nat.sub_self]
  rfl
/-- the children are gathered -/
theorem kids_loop {rows : Rows'} {T : List Int} {t : Nat} (hl : rows.length ≤ 11) (m : Nat) (o4 o6 o7 : Option Sv) (μ : Mu) (near0 : Rows') (h0 : near0.length ≤ 5) :
    ∃ p6 p7, gFor (enuV (slot 0)) (gTp 2 (gsCons (gNm 6) (gsCons (gNm 7) gsNil))) (gIf (tst (bin pEq (bin pIx (slot 7) (con (.int 0))) (slot 3))) (gExpr (appV (slot 5) (tupV (argC (bin (pAdd false) (slot 6) (con (.int 1))) (argC (bin pIx (slot 7) (con (.int 1))) argN))))) gSkip) (nS rows T t (some (svI (m : Nat))) o4 (some (.ref μ.length)) o6 o7) (μ ++ [.lst (near0.map fun r => .dat (rowD r))]) =
      some (.ok (.nx (nS rows T t (some (svI (m : Nat))) o4 (some (.ref μ.length)) p6 p7)) (μ ++ [.lst ((near0 ++ kids rows m rows.length).map fun r => .dat (rowD r))])) := by
  have len : ∀ j, (kids rows m j).length ≤ j := fun j => by
    unfold kids
    induction j with
    | zero => exact Nat.le_refl _
    | succ j ih =>
      rw [List.range_succ, List.flatMap_append, List.length_append]
      have : (List.flatMap (fun k => match rows[k]? with
        | some r => if r.1 = (m : Int) then [((k : Int) + 1, r.2)] else []
        | none => []) [j]).length ≤ 1 := by
        simp only [List.flatMap_cons, List.flatMap_nil, List.append_nil]
        split
        · split <;> simp
        · simp
      omega
  obtain ⟨ρ', μ', e, p6, p7, rfl, rfl⟩ := for_inv (T := gTp 2 (gsCons (gNm 6) (gsCons (gNm 7) gsNil))) (B := gIf (tst (bin pEq (bin pIx (slot 7) (con (.int 0))) (slot 3))) (gExpr (appV (slot 5) (tupV (argC (bin (pAdd false) (slot 6) (con (.int 1))) (argC (bin pIx (slot 7) (con (.int 1))) argN))))) gSkip)
    (fun j ρ μ' => ∃ p6 p7, ρ = nS rows T t (some (svI (m : Nat))) o4 (some (.ref μ.length)) p6 p7 ∧ μ' = μ ++ [.lst ((near0 ++ kids rows m j).map fun r => .dat (rowD r))])
    (show enuV (slot 0) (nS rows T t (some (svI (m : Nat))) o4 (some (.ref μ.length)) o6 o7) (μ ++ [.lst (near0.map fun r => .dat (rowD r))]) = some (.ok (enuD (rows.map rowD)) (μ ++ [.lst (near0.map fun r => .dat (rowD r))])) from rfl) (fun j d ρ μ' hd hI => by
      obtain ⟨p6, p7, rfl, rfl⟩ := hI
      obtain ⟨x, hx, rfl⟩ := enu_at hd
      obtain ⟨r, hr, rfl⟩ : ∃ r, rows[j]? = some r ∧ x = rowD r := by
        rw [List.getElem?_map] at hx
        cases q : rows[j]? with
        | none =>
          rw [q] at hx
          cases hx
        | some r =>
          rw [q] at hx
          exact ⟨r, rfl, (Option.some.inj hx).symm⟩
      have hj : j < rows.length := (List.getElem?_eq_some_iff.mp hr).1
      have lk := len j
      generalize hacc : near0 ++ kids rows m j = acc
      have la : acc.length ≤ 100 := by
        rw [← hacc, List.length_append]
        omega
      have tt : ∀ μ2, tst (bin pEq (bin pIx (slot 7) (con (.int 0))) (slot 3)) (nS rows T t (some (svI (m : Nat))) o4 (some (.ref μ.length)) (some (svI (j : Nat))) (some (.dat (rowD r)))) μ2 = some (.ok (decide (r.1 = (m : Int))) μ2) := fun μ2 => by
        show some (Res.ok (false ^^ decide (r.1 = (m : Int))) μ2) = _
        rw [Bool.false_xor]
      refine ⟨nS rows T t (some (svI (m : Nat))) o4 (some (.ref μ.length)) (some (svI (j : Nat))) (some (.dat (rowD r))), μ ++ [.lst (acc.map fun r => .dat (rowD r))], nS rows T t (some (svI (m : Nat))) o4 (some (.ref μ.length)) (some (svI (j : Nat))) (some (.dat (rowD r))), μ ++ [.lst ((near0 ++ kids rows m (j + 1)).map fun r => .dat (rowD r))], rfl, .inl ?_, _, _, rfl, rfl⟩
      rw [kids_succ rows m j hr, ← List.append_assoc, hacc]
      by_cases h : r.1 = (m : Int)
      · have t1 := tt (μ ++ [.lst (acc.map fun r => .dat (rowD r))])
        rw [decide_eq_true h] at t1
        rw [if_t t1, if_pos h]
        have ap := app_at (Fa := slot 5) (F := tupV (argC (bin (pAdd false) (slot 6) (con (.int 1))) (argC (bin pIx (slot 7) (con (.int 1))) argN))) (ρ := nS rows T t (some (svI (m : Nat))) o4 (some (.ref μ.length)) (some (svI (j : Nat))) (some (.dat (rowD r)))) (μ := μ ++ [.lst (acc.map fun r => .dat (rowD r))]) (μ1 := μ ++ [.lst (acc.map fun r => .dat (rowD r))]) (a0 := acc.map fun r => .dat (rowD r)) (acc := acc.map fun r => .dat (rowD r)) (x := .dat (rowD ((j : Int) + 1, r.2))) (t := μ.length) rfl (get_last _ _) rfl (get_last _ _) (by rw [List.length_map]; omega)
        rw [ap, app_last, List.map_append]
        rfl
      · have t1 := tt (μ ++ [.lst (acc.map fun r => .dat (rowD r))])
        rw [decide_eq_false h] at t1
        rw [if_f t1, if_neg h, List.append_nil]
        rfl) ⟨o6, o7, rfl, by
          show _ = μ ++ [.lst ((near0 ++ []).map fun r => .dat (rowD r))]
          rw [List.append_nil]⟩
  rw [enu_len, List.length_map] at e
  exact ⟨p6, p7, e⟩
theorem tab_at {T : List Int} {i : Int} (h0 : 0 ≤ i) (h1 : i < T.length) (μ : Mu) : pIx (.dat (tabD T)) (svI i) μ = some (.ok (svI (tabAt T i)) μ) := by
  obtain ⟨x, a, b⟩ := atI_lt h0 h1
  have : tabAt T i = x := by
    unfold tabAt
    rw [a]
    rfl
  rw [this]
  exact tix_at (atI_map (f := PyData.int) b) μ
/-- one mark -/
abbrev needBody : Rho → M Out := (gSeq (gSet 5 (ifV (tst (bin pGt (slot 3) (con (.int 0)))) (lstV true (argC (bin pIx (slot 0) (bin pSub (slot 3) (con (.int 1)))) argN)) (lstV true argN)))
  (gSeq (gFor (enuV (slot 0)) (gTp 2 (gsCons (gNm 6) (gsCons (gNm 7) gsNil)))
  (gIf (tst (bin pEq (bin pIx (slot 7) (con (.int 0))) (slot 3)))
  (gExpr (appV (slot 5) (tupV (argC (bin (pAdd false) (slot 6) (con (.int 1))) (argC (bin pIx (slot 7) (con (.int 1))) argN)))))
  gSkip))
  (gIf (tst (bin pEq (lcV false [8, 9] (seqV (frzV (slot 5))) (gTp 2 (gsCons (gNm 8) (gsCons (gNm 9) gsNil))) (tst (bin pLe (bin (pAdd false) (bin pIx (slot 1) (slot 8)) (slot 9)) (slot 4))) (con (.int 1))) (lstV false argN)))
  (gExpr (appV (slot 2) (tupV (argC (slot 3) (argC (slot 4) argN)))))
  gSkip)))
theorem near_in {rows : Rows'} (ok : TreeOk rows) (m : Nat) : ∀ q ∈ nearR rows m, 0 ≤ q.1 ∧ q.1 ≤ rows.length := fun q hq => by
  unfold nearR at hq
  rcases List.mem_append.mp hq with h | h
  · split at h
    · rename_i r hr
      split at h
      · rw [List.mem_singleton.mp h]
        have := ok.at_ (List.mem_of_getElem? hr)
        omega
      · cases h
    · cases h
  · unfold kids at h
    obtain ⟨k, hk, hq⟩ := List.mem_flatMap.mp h
    have hk' := List.mem_range.mp hk
    split at hq
    · split at hq
      · rw [List.mem_singleton.mp hq]
        show 0 ≤ (k : Int) + 1 ∧ (k : Int) + 1 ≤ rows.length
        omega
      · cases hq
    · cases hq
theorem get_mid {α : Type} (xs : List α) (x : α) (g : List α) : (xs ++ [x] ++ g)[xs.length]? = some x := by
  rw [List.append_assoc, List.getElem?_append_right (Nat.le_refl _), Nat.sub_self]
  rfl
theorem set_mid {α : Type} (xs : List α) (x y : α) (g : List α) : (xs ++ [x] ++ g).set xs.length y = xs ++ [y] ++ g := by
  rw [List.append_assoc, List.set_append_right _ _ (Nat.le_refl _), Nat.sub_self, List.append_assoc]
  rfl
theorem need_turn {rows : Rows'} {T : List Int} (ok : TreeOk rows) (hl : rows.length ≤ 11) (hT : T.length = rows.length + 1) {m : Nat} (hm : m < T.length) (found : Rows') (hf : found.length ≤ 100) (o5 o6 o7 : Option Sv) (μ g : Mu) :
    ∃ p5 p6 p7, needBody (nS rows T μ.length (some (svI (m : Nat))) (some (svI (tabAt T (m : Nat)))) o5 o6 o7) (μ ++ [.lst (found.map fun r => .dat (rowD r))] ++ g) =
      some (.ok (.nx (nS rows T μ.length (some (svI (m : Nat))) (some (svI (tabAt T (m : Nat)))) p5 p6 p7)) (μ ++ [.lst ((found ++ (if needsB rows T m = true then [((m : Int), tabAt T (m : Nat))] else [])).map fun r => .dat (rowD r))] ++ (g ++ [.gone]))) := by
  generalize hM : μ ++ [MObj.lst (found.map fun r => .dat (rowD r))] ++ g = M1
  obtain ⟨near0, hn0, hnr, e1⟩ : ∃ near0 : Rows', near0.length ≤ 5 ∧ nearR rows m = near0 ++ kids rows m rows.length ∧ ifV (tst (bin pGt (slot 3) (con (.int 0)))) (lstV true (argC (bin pIx (slot 0) (bin pSub (slot 3) (con (.int 1)))) argN)) (lstV true argN) (nS rows T μ.length (some (svI (m : Nat))) (some (svI (tabAt T (m : Nat)))) o5 o6 o7) M1 = some (.ok (.ref M1.length) (M1 ++ [.lst (near0.map fun r => .dat (rowD r))])) := by
    have tt : tst (bin pGt (slot 3) (con (.int 0))) (nS rows T μ.length (some (svI (m : Nat))) (some (svI (tabAt T (m : Nat)))) o5 o6 o7) M1 = some (.ok (decide ((0 : Int) < (m : Int))) M1) := rfl
    by_cases h : 0 < m
    · rw [decide_eq_true (show (0 : Int) < (m : Int) by omega)] at tt
      obtain ⟨r, er, _⟩ := row_of ok h (show m ≤ rows.length by omega)
      refine ⟨[r], by simp, ?_, ?_⟩
      · unfold nearR
        rw [er]
        simp only [h, if_true]
      · rw [ifV_t tt]
        have x1 : bin pIx (slot 0) (bin pSub (slot 3) (con (.int 1))) (nS rows T μ.length (some (svI (m : Nat))) (some (svI (tabAt T (m : Nat)))) o5 o6 o7) M1 = some (.ok (.dat (rowD r)) M1) := by
          rw [bin_at (show slot 0 _ M1 = some (.ok (.dat (treeD rows)) M1) from rfl) (show bin pSub (slot 3) (con (.int 1)) _ M1 = some (.ok (svI ((m : Int) - 1)) M1) from rfl)]
          exact tree_row h er M1
        unfold lstV
        rw [bind_ok (args_c x1 args_n)]
        rfl
    · rw [decide_eq_false (show ¬ (0 : Int) < (m : Int) by omega)] at tt
      refine ⟨[], by simp, ?_, ?_⟩
      · unfold nearR
        split
        · rw [if_neg h]
        · rfl
      · rw [ifV_f tt]
        rfl
  obtain ⟨p6, p7, e2⟩ := kids_loop (T := T) (t := μ.length) hl m (some (svI (tabAt T (m : Nat)))) o6 o7 M1 near0 hn0
  rw [← hnr] at e2
  refine ⟨some (.ref M1.length), p6, p7, ?_⟩
  show gSeq _ _ _ M1 = _
  rw [seq_at (ρ' := nS rows T μ.length (some (svI (m : Nat))) (some (svI (tabAt T (m : Nat)))) (some (.ref M1.length)) o6 o7) (gset_at e1), seq_at e2]
  have dm : dats ((nearR rows m).map fun r => Sv.dat (rowD r)) = some ((nearR rows m).map rowD) := by
    have := dats_map ((nearR rows m).map rowD)
    rwa [List.map_map] at this
  have fz : seqV (frzV (slot 5)) (nS rows T μ.length (some (svI (m : Nat))) (some (svI (tabAt T (m : Nat)))) (some (.ref M1.length)) p6 p7) (M1 ++ [.lst ((nearR rows m).map fun r => .dat (rowD r))]) = some (.ok ((nearR rows m).map rowD) (M1 ++ [.gone])) := by
    have f : frzV (slot 5) (nS rows T μ.length (some (svI (m : Nat))) (some (svI (tabAt T (m : Nat)))) (some (.ref M1.length)) p6 p7) (M1 ++ [.lst ((nearR rows m).map fun r => .dat (rowD r))]) = some (.ok (.dat (.list ((nearR rows m).map rowD))) (M1 ++ [.gone])) := by
      show frz (.ref M1.length) _ = _
      unfold frz
      simp only [get_last, dm, Option.map, app_last]
    unfold seqV
    rw [bind_ok f]
    rfl
  have nl : (nearR rows m).length ≤ 1000 := by
    rw [hnr, List.length_append]
    have : (kids rows m rows.length).length ≤ rows.length := by
      unfold kids
      generalize rows.length = j
      induction j with
      | zero => exact Nat.le_refl _
      | succ j ih =>
        rw [List.range_succ, List.flatMap_append, List.length_append]
        have : (List.flatMap (fun k => match rows[k]? with
          | some r => if r.1 = (m : Int) then [((k : Int) + 1, r.2)] else []
          | none => []) [j]).length ≤ 1 := by
          simp only [List.flatMap_cons, List.flatMap_nil, List.append_nil]
          split
          · split <;> simp
          · simp
        omega
    omega
  let c : PyData → Bool := fun d => match d with
    | .tuple [.int a, .int b] => lateB T m (a, b)
    | _ => false
  have lc := lcV_filter (T := gTp 2 (gsCons (gNm 8) (gsCons (gNm 9) gsNil))) (C := tst (bin pLe (bin (pAdd false) (bin pIx (slot 1) (slot 8)) (slot 9)) (slot 4))) (Fe := con (.int 1)) (vs := [8, 9]) c (fun _ => .int 1) fz (by rw [List.length_map]; omega) (fun d hd => by
    obtain ⟨q, hq, rfl⟩ := List.mem_map.mp hd
    have b := near_in ok m q hq
    refine ⟨_, rfl, ?_, rfl⟩
    refine tst_at ?_
    generalize M1 ++ [MObj.gone] = μ2
    have x1 : bin pIx (slot 1) (slot 8) [some (.dat (treeD rows)), some (.dat (tabD T)), some (.ref μ.length), some (svI (m : Nat)), some (svI (tabAt T (m : Nat))), some (.ref M1.length), p6, p7, some (svI q.1), some (svI q.2)] μ2 = some (.ok (svI (tabAt T q.1)) μ2) := by
      rw [bin_at (show slot 1 _ μ2 = some (.ok (.dat (tabD T)) μ2) from rfl) (show slot 8 _ μ2 = some (.ok (svI q.1) μ2) from rfl)]
      exact tab_at b.1 (by omega) μ2
    show bin pLe _ _ [some (.dat (treeD rows)), some (.dat (tabD T)), some (.ref μ.length), some (svI (m : Nat)), some (svI (tabAt T (m : Nat))), some (.ref M1.length), p6, p7, some (svI q.1), some (svI q.2)] μ2 = _
    rw [bin_at (a := svI (tabAt T q.1 + q.2)) (μ1 := μ2) ((bin_at x1 (show slot 9 _ μ2 = some (.ok (svI q.2) μ2) from rfl)).trans rfl) (show slot 4 _ μ2 = some (.ok (svI (tabAt T (m : Nat))) μ2) from rfl)]
    rfl)
  have cnt : (((nearR rows m).map rowD).filter c).map (fun _ => PyData.int 1) = List.replicate ((nearR rows m).filter (lateB T m)).length (.int 1) := by
    rw [List.filter_map, List.map_map]
    have : (c ∘ rowD) = lateB T m := by
      funext q
      rfl
    rw [this]
    exact List.map_const' ..
  have t1 : tst (bin pEq (lcV false [8, 9] (seqV (frzV (slot 5))) (gTp 2 (gsCons (gNm 8) (gsCons (gNm 9) gsNil))) (tst (bin pLe (bin (pAdd false) (bin pIx (slot 1) (slot 8)) (slot 9)) (slot 4))) (con (.int 1))) (lstV false argN)) (nS rows T μ.length (some (svI (m : Nat))) (some (svI (tabAt T (m : Nat)))) (some (.ref M1.length)) p6 p7) (M1 ++ [.lst ((nearR rows m).map fun r => .dat (rowD r))]) = some (.ok (needsB rows T m) (M1 ++ [.gone])) := by
    refine tst_at ?_
    rw [bin_at lc (show lstV false argN _ (M1 ++ [.gone]) = some (.ok (.dat (.list [])) (M1 ++ [.gone])) from rfl)]
    exact eq_none _ cnt _
  have assoc : M1 ++ [MObj.gone] = μ ++ [MObj.lst (found.map fun r => .dat (rowD r))] ++ (g ++ [.gone]) := by
    rw [← hM, List.append_assoc _ g]
  cases hb : needsB rows T m with
  | true =>
    rw [hb] at t1
    rw [if_t t1, if_pos rfl, assoc]
    have ap := app_at (Fa := slot 2) (F := tupV (argC (slot 3) (argC (slot 4) argN))) (ρ := nS rows T μ.length (some (svI (m : Nat))) (some (svI (tabAt T (m : Nat)))) (some (.ref M1.length)) p6 p7) (μ := μ ++ [.lst (found.map fun r => .dat (rowD r))] ++ (g ++ [.gone])) (μ1 := μ ++ [.lst (found.map fun r => .dat (rowD r))] ++ (g ++ [.gone])) (t := μ.length) (a0 := found.map fun r => .dat (rowD r)) (acc := found.map fun r => .dat (rowD r)) (x := .dat (rowD ((m : Int), tabAt T (m : Nat)))) rfl (get_mid _ _ _) rfl (get_mid _ _ _) (by rw [List.length_map]; omega)
    rw [ap, set_mid, List.map_append]
    rfl
  | false =>
    rw [hb] at t1
    rw [if_f t1, if_neg Bool.false_ne_true, List.append_nil, assoc]
    rfl
theorem need_len (rows : Rows') (T : List Int) : ∀ j, (needR rows T j).length ≤ j
  | 0 => Nat.le_refl _
  | j + 1 => by
    have := need_len rows T j
    rw [need_succ, List.length_append]
    split <;> simp <;> omega
theorem run_needed {rows : Rows'} {T : List Int} (ok : TreeOk rows) (hl : rows.length ≤ 11) (hT : T.length = rows.length + 1) (μ : Mu) :
    ∃ g, Gneeded [some (.dat (treeD rows)), some (.dat (tabD T)), none, none, none, none, none, none, none, none] μ = some (.ok (.rt (.dat (.tuple ((needR rows T T.length).map rowD)))) (μ ++ g)) := by
  obtain ⟨ρ', μ', e, o3, o4, o5, o6, o7, g, rfl, rfl⟩ := for_inv (Fi := enuV (slot 1)) (T := gTp 2 (gsCons (gNm 3) (gsCons (gNm 4) gsNil))) (B := needBody)
    (fun j ρ μ' => ∃ o3 o4 o5 o6 o7 g, ρ = nS rows T μ.length o3 o4 o5 o6 o7 ∧ μ' = μ ++ [.lst ((needR rows T j).map fun r => .dat (rowD r))] ++ g) (ρ := nS rows T μ.length none none none none none) (μ := μ ++ [.lst []]) (μ0 := μ ++ [.lst []]) (ds := enuD (T.map .int)) rfl (fun j d ρ μ' hd hI => by
      obtain ⟨o3, o4, o5, o6, o7, g, rfl, rfl⟩ := hI
      obtain ⟨x, hx, rfl⟩ := enu_at hd
      have hj : j < T.length := by
        have := (List.getElem?_eq_some_iff.mp hx).1
        simpa using this
      have hxv : x = .int (tabAt T (j : Nat)) := by
        rw [List.getElem?_map, List.getElem?_eq_getElem hj] at hx
        have z := (Option.some.inj hx).symm
        rw [z]
        unfold tabAt
        rw [Int.toNat_natCast, List.getElem?_eq_getElem hj]
        rfl
      subst hxv
      have nl := need_len rows T j
      obtain ⟨p5, p6, p7, e⟩ := need_turn ok hl hT hj (needR rows T j) (by omega) o5 o6 o7 μ g
      rw [← need_succ] at e
      exact ⟨_, _, _, _, rfl, .inl e, some (svI (j : Nat)), some (svI (tabAt T (j : Nat))), p5, p6, p7, g ++ [.gone], rfl, rfl⟩) ⟨none, none, none, none, none, [], rfl, by
        show _ = μ ++ [.lst []] ++ []
        rw [List.append_nil]⟩
  rw [enu_len, List.length_map] at e
  refine ⟨[.lst ((needR rows T T.length).map fun r => .dat (rowD r))] ++ g, ?_⟩
  unfold Gneeded
  rw [seq_at (ρ' := nS rows T μ.length none none none none none) (μ' := μ ++ [.lst []]) rfl, seq_at e]
  refine ret_gives ?_
  rw [← List.append_assoc]
  rw [callV1_at (a := .ref μ.length) (μ1 := μ ++ [.lst ((needR rows T T.length).map fun r => .dat (rowD r))] ++ g) rfl]
  have ls : lsOf (.ref μ.length) (μ ++ [.lst ((needR rows T T.length).map fun r => .dat (rowD r))] ++ g) = some (.ok ((needR rows T T.length).map fun r => .dat (rowD r)) (μ ++ [.lst ((needR rows T T.length).map fun r => .dat (rowD r))] ++ g)) := by
    unfold lsOf
    simp only [get_mid]
  show M.bind (lsOf (.ref μ.length)) mkt _ = _
  rw [bind_ok ls]
  have dm : dats ((needR rows T T.length).map fun r => Sv.dat (rowD r)) = some ((needR rows T T.length).map rowD) := by
    have := dats_map ((needR rows T T.length).map rowD)
    rwa [List.map_map] at this
  unfold mkt
  rw [dm]
  rfl
end Pf

set_option maxHeartbeats 4000000
namespace Pf
open PySem PySem.Spec PyProof.Rows L2
/-! ### a tuple times 1: the tuple itself -/
theorem mul_one_meets (l : Addr) (items : Array Value) (n : Nat) (dd : Option Addr) (sl : Array (Option Value)) (u : Tok) : Meets (Builtin.«tuple.__mul__» ⟨[.ref l, .int 1 u], []⟩) (fun _ R s => s.heap.get? l = some { cls := .type "tuple", dict := dd, data := .seq items n, slots := sl } ∧ R (.ok (.ret (.ref l))) s) :=
  .of_wp fun prog w A R s h => by
    obtain ⟨hp, g, d, tk, os⟩ := s
    obtain ⟨at_, fin⟩ := h
    have f1 := AutoSeq1.idx_int
    have z0 : (decide ((1 : Int) < -(2 ^ 63)) || decide ((1 : Int) ≥ 2 ^ 63)) = false := by decide
    have z1 : (items.isEmpty || (1 : Int) == 1) = true := by simp
    wp_walk using wpAny_loadPart' at_
    repeat (first
      | (refine wpAny_ite_false (decide_eq_false (by rw [z0]; exact Bool.false_ne_true)) ?_; wp_walk using wpAny_loadPart' at_)
      | (refine wpAny_ite_true (decide_eq_true (by rw [z1])) ?_; wp_walk using wpAny_loadPart' at_))
    exact ⟨_, rfl, fin⟩
def rOneT (K : PySem.W.Frag) : R2 := fun x y H Q => ∃ l xs, x = .ref l ∧ y = .int 1 ∧ SqT K H l xs ∧ Q (.ref l) H
theorem op_oneT {X : Cx} : OpR X (binaryOp .Mult) (rOneT X.K) := by
  intro pins s σ H x y v u Q I rx ry ⟨l, xs, e1, e2, hT, q⟩
  subst e1 e2
  cases rx
  obtain ⟨t, rfl⟩ := ry
  obtain ⟨its, r, ⟨⟨cl, dd, dt, sl⟩, ho, hc, n, hd⟩, _⟩ := I.tuple hT
  simp only at hc hd
  subst hc hd
  refine wpAny_binaryOp_repeat_ref (T := "tuple") (U := "int") (by decide) ⟨_, ho, rfl⟩ (fun s' => typeIs_int s' 1 t) noFill_tuple_mul F.fills_int_mul F.slot_int_rmul repeat_tuple F.slot_int_index.lookup (call_meets F.slot_int_rmul (typeIs_int s 1 t) F.entry_int_rmul (F.args_int_rmul_2 _ _) (int_rmul_tuple 1 t l its.toArray n dd sl)
    ⟨ho, rfl, ⟨_, ho, rfl⟩, call_meets F.slot_tuple_mul ⟨_, ho, rfl⟩ F.entry_tuple_mul (F.args_tuple_mul_2 _ _) (mul_one_meets l its.toArray n dd sl t) ⟨ho, ⟨.ref l, H, I, rfl, q⟩⟩⟩)
/-- a tuple times an int from 1 on -/
def pMulA (a b : Sv) : M Sv := match a, b with
  | .dat (.tuple xs), .dat (.int k) => if (decide (0 < xs.length) && decide (1 ≤ k) && decide (k ≤ 1000) && decide (xs.length ≤ 1000)) = true then M.ret (.dat (.tuple (List.replicate k.toNat xs).flatten)) else M.fail
  | _, _ => M.fail
theorem o_mulA {X : Cx} {E : XK} : OpR X (binaryOp .Mult) (rO2 X.K E pMulA) := opr_weak ((op_oneT (X := X)).or op_repT) fun x y H Q ⟨W, μ, a, b, r, R, ra, rb, e, q⟩ => by
  unfold pMulA at e
  split at e
  · rename_i xs k
    obtain ⟨c, e⟩ := iff_ok e
    obtain ⟨c, c4⟩ := Bool.and_eq_true_iff.mp c
    obtain ⟨c, c3⟩ := Bool.and_eq_true_iff.mp c
    obtain ⟨c1, c2⟩ := Bool.and_eq_true_iff.mp c
    have k1 := of_decide_eq_true c2
    cases ra with
    | tup h1 r1 =>
      have l := r1.len
      by_cases hk : k = 1
      · subst hk
        have ek := dq_int rb
        subst ek
        cases e
        rw [show (List.replicate (1 : Int).toNat xs).flatten = xs by simp] at q
        exact .inl ⟨_, _, rfl, rfl, seqT_mono R.sub h1, q _ _ (Grow.refl _ _ _) R _ (.tup h1 r1)⟩
      · refine .inr ⟨_, _, _, rfl, dq_int rb, seqT_mono R.sub h1, fun z => ?_, by omega, of_decide_eq_true c3, by rw [l]; exact of_decide_eq_true c4, fun p hp => dq_tup R hp (flat_dqs r1 _) e q⟩
        rw [z] at l
        have := of_decide_eq_true c1
        rw [← l] at this
        exact absurd this (Nat.lt_irrefl 0)
  · cases e
end Pf

namespace Pf
open PySem PySem.Spec PyProof.Rows L2
/-! ### the second reading: values are data, the deck is the state -/
/-- the deck: its cells (of the laws whose draws are told apart: what is left of them), the count, the cells that stay -/
structure Dk where
  cs : List Int
  n : Int
  ce : Option (List Int)
structure Ec where
  C : Str
  fld : Option (Str × PyData)
def Ec.up (c : Ec) : Exc := ⟨c.C, c.fld.map fun p => (p.1, .dat p.2)⟩
inductive Rs (α : Type) where
  | ok (a : α)
  | ex (c : Ec)
def S (α : Type) : Type := Dk → Option (Rs α × Dk)
namespace S
variable {α β γ : Type}
def ret (a : α) : S α := fun k => some (.ok a, k)
def fail : S α := fun _ => none
def thr (c : Ec) : S α := fun k => some (.ex c, k)
def bind (m : S α) (f : α → S β) : S β := fun k => match m k with
  | some (.ok a, k') => f a k'
  | some (.ex c, k') => some (.ex c, k')
  | none => none
def lift (o : Option α) : S α := fun k => match o with
  | some a => some (.ok a, k)
  | none => none
def noEx (m : S α) : S α := fun k => match m k with
  | some (.ok a, k') => some (.ok a, k')
  | _ => none
theorem ret_bind (a : α) (f : α → S β) : (ret a).bind f = f a := by
  funext k
  rfl
theorem thr_bind (c : Ec) (f : α → S β) : (thr c).bind f = thr c := by
  funext k
  rfl
theorem fail_bind (f : α → S β) : (fail : S α).bind f = fail := by
  funext k
  rfl
theorem lift_some (a : α) : lift (some a) = ret a := by
  funext k
  rfl
theorem lift_none : lift (none : Option α) = fail := rfl
theorem noEx_ret (a : α) : noEx (ret a) = ret a := by
  funext k
  rfl
theorem bind_ret (m : S α) : m.bind ret = m := by
  funext k
  unfold bind
  split <;> rename_i h <;> rw [h] <;> rfl
theorem bind_assoc (m : S α) (f : α → S β) (g : β → S γ) : (m.bind f).bind g = m.bind fun a => (f a).bind g := by
  funext k
  unfold bind
  cases m k with
  | none => rfl
  | some x =>
    obtain ⟨r, k'⟩ := x
    cases r <;> rfl
theorem bind_inv {m : S α} {f : α → S β} {k k' : Dk} {r : Rs β} (h : m.bind f k = some (r, k')) :
    (∃ a k1, m k = some (.ok a, k1) ∧ f a k1 = some (r, k')) ∨ ∃ c, m k = some (.ex c, k') ∧ r = .ex c := by
  unfold bind at h
  split at h
  · rename_i a k1 e
    exact .inl ⟨a, k1, e, h⟩
  · rename_i c k1 e
    cases h
    exact .inr ⟨c, e, rfl⟩
  · cases h
def mapM (f : α → S β) : List α → S (List β)
  | [] => ret []
  | a :: as => (f a).bind fun b => (mapM f as).bind fun bs => ret (b :: bs)
def mapF (f : α → S (Option β)) : List α → S (List β)
  | [] => ret []
  | a :: as => (f a).bind fun o => (mapF f as).bind fun bs => ret (match o with | some b => b :: bs | none => bs)
def foldM {σ : Type} (f : σ → α → S σ) : List α → σ → S σ
  | [], s => ret s
  | a :: as, s => (f s a).bind fun s' => foldM f as s'
theorem mapM_ret {f : α → S β} {g : α → β} : ∀ {xs : List α}, (∀ x ∈ xs, f x = ret (g x)) → mapM f xs = ret (xs.map g)
  | [], _ => rfl
  | x :: xs, h => by
    unfold mapM
    rw [h x List.mem_cons_self, ret_bind, mapM_ret (xs := xs) fun y hy => h y (List.mem_cons_of_mem _ hy)]
    rfl
theorem mapF_ret {f : α → S (Option β)} {g : α → Option β} : ∀ {xs : List α}, (∀ x ∈ xs, f x = ret (g x)) → mapF f xs = ret (xs.filterMap g)
  | [], _ => rfl
  | x :: xs, h => by
    unfold mapF
    rw [h x List.mem_cons_self, ret_bind, mapF_ret (xs := xs) fun y hy => h y (List.mem_cons_of_mem _ hy), ret_bind, List.filterMap_cons]
    cases g x <;> rfl
theorem mapM_map {δ : Type} {f : α → S β} {g : δ → α} : ∀ {xs : List δ}, mapM f (xs.map g) = mapM (fun x => f (g x)) xs
  | [] => rfl
  | x :: xs => by
    rw [List.map_cons]
    unfold mapM
    rw [mapM_map (xs := xs)]
theorem mapF_map {δ : Type} {f : α → S (Option β)} {g : δ → α} : ∀ {xs : List δ}, mapF f (xs.map g) = mapF (fun x => f (g x)) xs
  | [] => rfl
  | x :: xs => by
    rw [List.map_cons]
    unfold mapF
    rw [mapF_map (xs := xs)]
theorem foldM_ret {σ : Type} {f : σ → α → S σ} {g : σ → α → σ} (I : σ → Prop) : ∀ {xs : List α} {s : σ}, I s → (∀ s x, I s → x ∈ xs → f s x = ret (g s x) ∧ I (g s x)) → foldM f xs s = ret (xs.foldl g s) ∧ I (xs.foldl g s)
  | [], s, h, _ => ⟨rfl, h⟩
  | x :: xs, s, h, st => by
    obtain ⟨e, i⟩ := st s x h List.mem_cons_self
    unfold foldM
    rw [e, ret_bind]
    exact foldM_ret I (xs := xs) i fun s y hs hy => st s y hs (List.mem_cons_of_mem _ hy)
/-- by an invariant that counts -/
theorem foldM_inv {σ : Type} {f : σ → α → S σ} (I : Nat → σ → Prop) : ∀ {xs : List α} {s : σ} {k : Nat}, I k s → (∀ (i : Nat) s x, I (k + i) s → xs[i]? = some x → ∃ s', f s x = ret s' ∧ I (k + i + 1) s') → ∃ s', foldM f xs s = ret s' ∧ I (k + xs.length) s'
  | [], s, k, h, _ => ⟨s, rfl, h⟩
  | x :: xs, s, k, h, st => by
    obtain ⟨s1, e, i⟩ := st 0 s x h rfl
    obtain ⟨s2, e2, i2⟩ := foldM_inv I (xs := xs) (s := s1) (k := k + 1) i fun i s y hs hy => by
      have a1 : k + 1 + i = k + (i + 1) := by omega
      rw [a1] at hs ⊢
      exact st (i + 1) s y hs (by simpa using hy)
    refine ⟨s2, ?_, ?_⟩
    · unfold foldM
      rw [e, ret_bind, e2]
    · rw [List.length_cons]
      have a1 : k + (xs.length + 1) = k + 1 + xs.length := by omega
      rw [a1]
      exact i2
end S
/-! ### slots -/
def dkI (k : Dk) : List Sv := match k.ce with
  | none => [.ref 0, svI k.n]
  | some c => [.dat (.list (c.map .int)), svI k.n, .ref 0]
def dkO (k : Dk) : Mu := [.lst (k.cs.map svI), .lst (dkI k)]
inductive Sk where
  | im (d : PyData)
  | mt (ds : List PyData)
  | dk
abbrev En := List (Option Sk)
def SkR (b : Nat) (μ : Mu) : Sk → Sv → Prop
  | .im d, s => s = .dat d
  | .mt ds, s => ∃ t, s = .ref t ∧ b ≤ t ∧ μ[t]? = some (.lst (ds.map Sv.dat))
  | .dk, s => s = .ref 1
structure EnvR (l : En) (k : Dk) (rest : Mu) (ρ : Rho) (μ : Mu) : Prop where
  pre : ∃ g, μ = dkO k ++ rest ++ g
  len : ρ.length = l.length
  at_ : ∀ (i : Nat) (x : Sk), l[i]? = some (some x) → ∃ s, ρ[i]? = some (some s) ∧ SkR (2 + rest.length) μ x s
  inj : ∀ (i j : Nat) (xs ys : List PyData) (t : Nat), l[i]? = some (some (.mt xs)) → l[j]? = some (some (.mt ys)) → ρ[i]? = some (some (.ref t)) → ρ[j]? = some (some (.ref t)) → i = j
/-- fewer slots are known -/
inductive Wkn : En → En → Prop
  | nil : Wkn [] []
  | drop {a : Option Sk} {l l' : En} (h : Wkn l l') : Wkn (a :: l) (none :: l')
  | keep {a : Option Sk} {l l' : En} (h : Wkn l l') : Wkn (a :: l) (a :: l')
theorem Wkn.len : ∀ {l l' : En}, Wkn l l' → l.length = l'.length
  | _, _, .nil => rfl
  | _, _, .drop h => by rw [List.length_cons, List.length_cons, h.len]
  | _, _, .keep h => by rw [List.length_cons, List.length_cons, h.len]
theorem Wkn.get : ∀ {l l' : En}, Wkn l l' → ∀ {i : Nat} {x : Sk}, l'[i]? = some (some x) → l[i]? = some (some x)
  | _, _, .nil, _, _, e => by simp at e
  | _, _, .drop h, 0, _, e => by simp at e
  | _, _, .drop h, i + 1, _, e => by
    rw [List.getElem?_cons_succ] at e ⊢
    exact h.get e
  | _, _, .keep h, 0, _, e => by simpa using e
  | _, _, .keep h, i + 1, _, e => by
    rw [List.getElem?_cons_succ] at e ⊢
    exact h.get e
theorem EnvR.weak {l l' : En} {k : Dk} {rest : Mu} {ρ : Rho} {μ : Mu} (h : EnvR l k rest ρ μ) (w : Wkn l l') : EnvR l' k rest ρ μ :=
  ⟨h.pre, by rw [h.len, w.len], fun i x e => h.at_ i x (w.get e), fun i j xs ys t e1 e2 => h.inj i j xs ys t (w.get e1) (w.get e2)⟩
theorem getE_set {α : Type} {l : List α} {i j : Nat} {x y : α} (h : (l.set i x)[j]? = some y) : (j = i ∧ y = x ∧ i < l.length) ∨ (j ≠ i ∧ l[j]? = some y) := by
  by_cases e : i = j
  · subst e
    have hl : i < l.length := by
      have := (List.getElem?_eq_some_iff.mp h).1
      simpa using this
    rw [List.getElem?_set_self hl] at h
    cases h
    exact .inl ⟨rfl, rfl, hl⟩
  · rw [List.getElem?_set_ne e] at h
    exact .inr ⟨fun z => e z.symm, h⟩
section
variable {l : En} {k : Dk} {rest : Mu} {ρ : Rho} {μ : Mu}
theorem EnvR.setI (h : EnvR l k rest ρ μ) (i : Nat) (d : PyData) : EnvR (l.set i (some (.im d))) k rest (ρ.set i (some (.dat d))) μ := by
  refine ⟨h.pre, by rw [List.length_set, List.length_set, h.len], fun j x e => ?_, fun a b xs ys t e1 e2 e3 e4 => ?_⟩
  · rcases getE_set e with ⟨rfl, e, hl⟩ | ⟨hj, e⟩
    · cases e
      exact ⟨_, List.getElem?_set_self (by rw [h.len]; exact hl), rfl⟩
    · obtain ⟨s, e1, e2⟩ := h.at_ j x e
      exact ⟨s, by rw [List.getElem?_set_ne fun z => hj z.symm]; exact e1, e2⟩
  · rcases getE_set e1 with ⟨_, z, _⟩ | ⟨ha, e1⟩
    · cases z
    rcases getE_set e2 with ⟨_, z, _⟩ | ⟨hb, e2⟩
    · cases z
    rw [List.getElem?_set_ne fun z => ha z.symm] at e3
    rw [List.getElem?_set_ne fun z => hb z.symm] at e4
    exact h.inj a b xs ys t e1 e2 e3 e4
theorem EnvR.unset {i : Nat} {d : PyData} (h : EnvR (l.set i (some (.im d))) k rest (ρ.set i (some (.dat d))) μ) (hi : l[i]? = some none) : EnvR l k rest ρ μ := by
  have ne : ∀ (j : Nat) (x : Sk), l[j]? = some (some x) → i ≠ j := fun j x e z => by
    subst z
    rw [hi] at e
    cases e
  refine ⟨h.pre, by have := h.len; rwa [List.length_set, List.length_set] at this, fun j x e => ?_, fun a b xs ys t e1 e2 e3 e4 => ?_⟩
  · have hj := ne j x e
    obtain ⟨s, e1, e2⟩ := h.at_ j x (by rw [List.getElem?_set_ne hj]; exact e)
    exact ⟨s, by rw [List.getElem?_set_ne hj] at e1; exact e1, e2⟩
  · have ha := ne a _ e1
    have hb := ne b _ e2
    exact h.inj a b xs ys t (by rw [List.getElem?_set_ne ha]; exact e1) (by rw [List.getElem?_set_ne hb]; exact e2) (by rw [List.getElem?_set_ne ha]; exact e3) (by rw [List.getElem?_set_ne hb]; exact e4)
/-- a new tagged list -/
theorem EnvR.more (h : EnvR l k rest ρ μ) (o : MObj) : EnvR l k rest ρ (μ ++ [o]) := by
  obtain ⟨g, hg⟩ := h.pre
  refine ⟨⟨g ++ [o], by rw [hg, List.append_assoc]⟩, h.len, fun i x e => ?_, h.inj⟩
  obtain ⟨s, e1, e2⟩ := h.at_ i x e
  refine ⟨s, e1, ?_⟩
  cases x with
  | im d => exact e2
  | dk => exact e2
  | mt ds =>
    obtain ⟨t, a, b, c⟩ := e2
    exact ⟨t, a, b, by rw [List.getElem?_append_left (List.getElem?_eq_some_iff.mp c).1]; exact c⟩
theorem EnvR.base (h : EnvR l k rest ρ μ) : 2 + rest.length ≤ μ.length := by
  obtain ⟨g, hg⟩ := h.pre
  rw [hg]
  simp [dkO]
  omega
theorem EnvR.setM (h : EnvR l k rest ρ μ) (i : Nat) (ds : List PyData) : EnvR (l.set i (some (.mt ds))) k rest (ρ.set i (some (.ref μ.length))) (μ ++ [.lst (ds.map Sv.dat)]) := by
  have h2 := h.more (.lst (ds.map Sv.dat))
  have old : ∀ (j : Nat) (xs : List PyData) (t : Nat), l[j]? = some (some (.mt xs)) → ρ[j]? = some (some (.ref t)) → t < μ.length := fun j xs t e1 e2 => by
    obtain ⟨s, a, t', b, c, d⟩ := h.at_ j _ e1
    rw [a] at e2
    cases e2
    cases b
    exact (List.getElem?_eq_some_iff.mp d).1
  refine ⟨h2.pre, by rw [List.length_set, List.length_set, h.len], fun j x e => ?_, fun a b xs ys t e1 e2 e3 e4 => ?_⟩
  · rcases getE_set e with ⟨rfl, e, hl⟩ | ⟨hj, e⟩
    · cases e
      refine ⟨_, List.getElem?_set_self (by rw [h.len]; exact hl), _, rfl, h.base, ?_⟩
      rw [List.getElem?_append_right (Nat.le_refl _), Nat.sub_self]
      rfl
    · obtain ⟨s, e1, e2⟩ := h2.at_ j x e
      exact ⟨s, by rw [List.getElem?_set_ne fun z => hj z.symm]; exact e1, e2⟩
  · rcases getE_set e1 with ⟨ha, z, hl⟩ | ⟨ha, q1⟩
    · rcases getE_set e2 with ⟨hb, z2, _⟩ | ⟨hb, q2⟩
      · rw [ha, hb]
      · subst ha
        rw [List.getElem?_set_self (by rw [h.len]; exact hl)] at e3
        rw [List.getElem?_set_ne fun z => hb z.symm] at e4
        cases e3
        exact absurd (old b ys _ q2 e4) (Nat.lt_irrefl _)
    · skip
      rw [List.getElem?_set_ne fun z => ha z.symm] at e3
      rcases getE_set e2 with ⟨hb, z2, hl⟩ | ⟨hb, q2⟩
      · subst hb
        rw [List.getElem?_set_self (by rw [h.len]; exact hl)] at e4
        cases e4
        exact absurd (old a xs _ q1 e3) (Nat.lt_irrefl _)
      · rw [List.getElem?_set_ne fun z => hb z.symm] at e4
        exact h.inj a b xs ys t q1 q2 e3 e4
/-- a tagged list of a slot is written -/
theorem EnvR.write (h : EnvR l k rest ρ μ) {i t : Nat} {xs : List PyData} (hi : l[i]? = some (some (.mt xs))) (hr : ρ[i]? = some (some (.ref t))) (ds : List PyData) : EnvR (l.set i (some (.mt ds))) k rest ρ (μ.set t (.lst (ds.map Sv.dat))) := by
  obtain ⟨s, a, t', b, c, d⟩ := h.at_ i _ hi
  rw [hr] at a
  cases a
  cases b
  have ht : t < μ.length := (List.getElem?_eq_some_iff.mp d).1
  refine ⟨?_, by rw [List.length_set, h.len], fun j x e => ?_, fun a b ys zs u e1 e2 e3 e4 => ?_⟩
  · obtain ⟨g, hg⟩ := h.pre
    have hb : (dkO k ++ rest).length ≤ t := by
      rw [List.length_append]
      exact c
    exact ⟨g.set (t - (dkO k ++ rest).length) (.lst (ds.map Sv.dat)), by rw [hg, List.set_append_right _ _ hb]⟩
  · rcases getE_set e with ⟨rfl, e, hl⟩ | ⟨hj, e⟩
    · cases e
      exact ⟨_, hr, _, rfl, c, List.getElem?_set_self ht⟩
    · obtain ⟨s, e1, e2⟩ := h.at_ j x e
      refine ⟨s, e1, ?_⟩
      cases x with
      | im d => exact e2
      | dk => exact e2
      | mt ds =>
        obtain ⟨u, z1, z2, z3⟩ := e2
        refine ⟨u, z1, z2, ?_⟩
        rw [List.getElem?_set_ne fun z => hj (h.inj j i _ _ u e hi (by rw [e1, z1]) (by rw [hr, z]))]
        exact z3
  · have up : ∀ (a : Nat) (ys : List PyData), (l.set i (some (.mt ds)))[a]? = some (some (.mt ys)) → ∃ zs, l[a]? = some (some (.mt zs)) := fun a ys e => by
      rcases getE_set e with ⟨rfl, _, _⟩ | ⟨_, e⟩
      · exact ⟨_, hi⟩
      · exact ⟨_, e⟩
    obtain ⟨_, e1⟩ := up a _ e1
    obtain ⟨_, e2⟩ := up b _ e2
    exact h.inj a b _ _ u e1 e2 e3 e4
/-- .. is frozen: the slot is forgotten -/
theorem EnvR.freeze (h : EnvR l k rest ρ μ) {i t : Nat} {xs : List PyData} (hi : l[i]? = some (some (.mt xs))) (hr : ρ[i]? = some (some (.ref t))) (o : MObj) : EnvR (l.set i none) k rest ρ (μ.set t o) := by
  have h2 := h.write hi hr []
  obtain ⟨s, a, t', b, c, d⟩ := h.at_ i _ hi
  rw [hr] at a
  cases a
  cases b
  have sub : ∀ (j : Nat) (x : Sk), (l.set i none)[j]? = some (some x) → j ≠ i ∧ l[j]? = some (some x) := fun j x e => by
    rcases getE_set e with ⟨_, z, _⟩ | ⟨hj, e⟩
    · cases z
    · exact ⟨hj, e⟩
  refine ⟨?_, by rw [List.length_set, h.len], fun j x e => ?_, fun a b ys zs u e1 e2 e3 e4 => h.inj a b _ _ u (sub a _ e1).2 (sub b _ e2).2 e3 e4⟩
  · obtain ⟨g, hg⟩ := h.pre
    have hb : (dkO k ++ rest).length ≤ t := by
      rw [List.length_append]
      exact c
    exact ⟨g.set (t - (dkO k ++ rest).length) o, by rw [hg, List.set_append_right _ _ hb]⟩
  · obtain ⟨hj, e⟩ := sub j x e
    obtain ⟨s, e1, e2⟩ := h.at_ j x e
    refine ⟨s, e1, ?_⟩
    cases x with
    | im d => exact e2
    | dk => exact e2
    | mt ds =>
      obtain ⟨u, z1, z2, z3⟩ := e2
      refine ⟨u, z1, z2, ?_⟩
      rw [List.getElem?_set_ne fun z => hj (h.inj j i _ _ u e hi (by rw [e1, z1]) (by rw [hr, z]))]
      exact z3
end
/-! ### the judgement -/
abbrev Post (α β : Type) := Dk → Mu → Rho → Mu → α → β → Prop
def Jl {α β : Type} (k : Dk) (rest : Mu) (ρ : Rho) (μ : Mu) (m : M α) (t : S β) (P : Post α β) : Prop := ∀ r k', t k = some (r, k') → match r with
  | .ok b => ∃ a μ', m μ = some (.ok a μ') ∧ P k' rest ρ μ' a b
  | .ex c => ∃ g, m μ = some (.ex c.up (dkO k' ++ rest ++ g))
def Jd {α β : Type} (l : En) (F : Rho → M α) (t : S β) (P : Post α β) : Prop := ∀ k rest ρ μ, EnvR l k rest ρ μ → Jl k rest ρ μ (F ρ) t P
section
variable {α β γ δ : Type} {k : Dk} {rest : Mu} {ρ : Rho} {μ : Mu}
theorem Jl.bind {m : M α} {f : α → M γ} {t : S β} {u : β → S δ} {P : Post α β} {Q : Post γ δ} (h : Jl k rest ρ μ m t P) (hk : ∀ k' μ' a b, P k' rest ρ μ' a b → Jl k' rest ρ μ' (f a) (u b) Q) : Jl k rest ρ μ (m.bind f) (t.bind u) Q := by
  intro r k' e
  rcases S.bind_inv e with ⟨b, k1, e1, e2⟩ | ⟨c, e1, rfl⟩
  · obtain ⟨a, μ1, h1, h2⟩ := h _ _ e1
    have := hk k1 μ1 a b h2 r k' e2
    rw [bind_ok h1]
    exact this
  · obtain ⟨g, h1⟩ := h _ _ e1
    exact ⟨g, bind_ex h1⟩
theorem Jl.ret {a : α} {b : β} {P : Post α β} (h : P k rest ρ μ a b) : Jl k rest ρ μ (M.ret a) (S.ret b) P := by
  intro r k' e
  cases e
  exact ⟨a, μ, rfl, h⟩
theorem Jl.lift {m : M α} {o : Option β} {P : Post α β} (h : ∀ b, o = some b → ∃ a μ', m μ = some (.ok a μ') ∧ P k rest ρ μ' a b) : Jl k rest ρ μ m (S.lift o) P := by
  intro r k' e
  unfold S.lift at e
  cases o with
  | none => cases e
  | some b =>
    cases e
    exact h b rfl
/-- the second reading goes on without a step of the first one -/
theorem Jl.pre {m : M γ} {o : Option β} {u : β → S δ} {Q : Post γ δ} (h : ∀ b, o = some b → Jl k rest ρ μ m (u b) Q) : Jl k rest ρ μ m ((S.lift o).bind u) Q := by
  intro r k' e
  cases o with
  | none => cases e
  | some b => exact h b rfl r k' e
theorem Jl.weak {m : M α} {t : S β} {P Q : Post α β} (h : Jl k rest ρ μ m t P) (w : ∀ k' μ' a b, P k' rest ρ μ' a b → Q k' rest ρ μ' a b) : Jl k rest ρ μ m t Q := by
  intro r k' e
  have := h r k' e
  cases r with
  | ok b =>
    obtain ⟨a, μ', h1, h2⟩ := this
    exact ⟨a, μ', h1, w _ _ _ _ h2⟩
  | ex c => exact this
theorem Jl.eqM {m m' : M α} {t : S β} {P : Post α β} (h : Jl k rest ρ μ m t P) (e : m' = m) : Jl k rest ρ μ m' t P := e ▸ h
theorem M.bind_ret (m : M α) : m.bind M.ret = m := by
  funext μ
  exact set_at
theorem M.assoc (m : M α) (f : α → M β) (g : β → M γ) : (m.bind f).bind g = m.bind fun a => (f a).bind g := by
  funext μ
  unfold M.bind
  cases m μ with
  | none => rfl
  | some x => cases x <;> rfl
end
/-- what is read: data, or a tagged list of data -/
def Rdr (μ : Mu) (s : Sv) (d : PyData) : Prop := s = .dat d ∨ ∃ t ds, s = .ref t ∧ μ[t]? = some (.lst (ds.map Sv.dat)) ∧ d = .list ds
theorem Rdr.dat {μ : Mu} {d : PyData} : Rdr μ (.dat d) d := .inl rfl
theorem Rdr.rd {μ : Mu} {s : Sv} {d : PyData} (h : Rdr μ s d) : rd s μ = some (.ok d μ) := by
  rcases h with rfl | ⟨t, ds, rfl, e, rfl⟩
  · rfl
  · unfold Pf.rd
    simp only [e, dats_map]
    rfl
theorem Rdr.ls {μ : Mu} {s : Sv} {ds : List PyData} (h : Rdr μ s (.list ds)) : lsOf s μ = some (.ok (ds.map Sv.dat) μ) := by
  rcases h with rfl | ⟨t, ds', rfl, e, z⟩
  · rfl
  · cases z
    unfold lsOf
    simp only [e]
theorem Rdr.imm {μ : Mu} {s : Sv} {d : PyData} (h : Rdr μ s d) (hd : ∀ ds, d ≠ .list ds) : s = .dat d := by
  rcases h with rfl | ⟨t, ds, rfl, e, rfl⟩
  · rfl
  · exact absurd rfl (hd ds)
end Pf

namespace Pf
open PySem PySem.Spec PyProof.Rows L2
/-! ### expressions -/
section
variable {l l1 l2 l3 : En} {Fa Fb Fc : Rho → M Sv} {ta tb tc : S PyData}
abbrev pV (l : En) : Post Sv PyData := fun k rest ρ μ a d => a = .dat d ∧ EnvR l k rest ρ μ
abbrev pW (l : En) : Post Sv PyData := fun k rest ρ μ a d => Rdr μ a d ∧ EnvR l k rest ρ μ
abbrev pB (l : En) : Post Bool Bool := fun k rest ρ μ a d => a = d ∧ EnvR l k rest ρ μ
abbrev pA (n : Nat) (l : En) : Post (List Sv) (List PyData) := fun k rest ρ μ a d => a = d.map Sv.dat ∧ d.length = n ∧ EnvR l k rest ρ μ
abbrev pL (l : En) : Post (List PyData) (List PyData) := fun k rest ρ μ a d => a = d ∧ EnvR l k rest ρ μ
theorem e_w {t : S PyData} (h : Jd l Fa t (pV l1)) : Jd l Fa t (pW l1) := fun k rest ρ μ e => (h k rest ρ μ e).weak fun _ _ _ _ ⟨z, q⟩ => ⟨z ▸ .dat, q⟩
theorem e_slot (i : Nat) {d : PyData} (h : l[i]? = some (some (.im d))) : Jd l (slot i) (S.ret d) (pV l) := fun k rest ρ μ e => by
  obtain ⟨s, h1, h2⟩ := e.at_ i _ h
  cases h2
  intro r k' q
  cases q
  refine ⟨_, μ, ?_, rfl, e⟩
  unfold slot
  rw [h1]
  rfl
theorem slot_at {i : Nat} {ρ : Rho} {s : Sv} (μ : Mu) (h : ρ[i]? = some (some s)) : slot i ρ μ = some (.ok s μ) := by
  unfold slot
  rw [h]
  rfl
theorem e_slotW (i : Nat) {ds : List PyData} (h : l[i]? = some (some (.mt ds))) : Jd l (slot i) (S.ret (.list ds)) (pW l) := fun k rest ρ μ e => by
  obtain ⟨s, h1, t, rfl, h3, h4⟩ := e.at_ i _ h
  intro r k' q
  cases q
  exact ⟨_, μ, slot_at μ h1, .inr ⟨t, ds, rfl, h4, rfl⟩, e⟩
theorem e_frz (i : Nat) {ds : List PyData} (h : l[i]? = some (some (.mt ds))) : Jd l (frzV (slot i)) (S.ret (.list ds)) (pV (l.set i none)) := fun k rest ρ μ e => by
  obtain ⟨s, h1, t, rfl, h3, h4⟩ := e.at_ i _ h
  intro r k' q
  cases q
  refine ⟨.dat (.list ds), μ.set t .gone, ?_, rfl, e.freeze h h1 _⟩
  unfold frzV
  rw [bind_ok (slot_at μ h1)]
  unfold frz
  simp only [h4, dats_map]
  rfl
theorem e_con (d : PyData) : Jd l (con d) (S.ret d) (pV l) := fun k rest ρ μ e => Jl.ret ⟨rfl, e⟩
/-! operators -/
def Op2 (op : Sv → Sv → M Sv) (o : PyData → PyData → Option PyData) : Prop := ∀ a b da db d μ, Rdr μ a da → Rdr μ b db → o da db = some d → op a b μ = some (.ok (.dat d) μ)
def OpB (op : Sv → Sv → M Sv) (c : PyData → PyData → Option Bool) : Prop := ∀ a b da db d μ, Rdr μ a da → Rdr μ b db → c da db = some d → op a b μ = some (.ok (.dat (.bool d)) μ)
variable {op op' : Sv → Sv → M Sv} {o : PyData → PyData → Option PyData} {c c' : PyData → PyData → Option Bool}
def asB2 (f : Option Bool) : Option PyData := f.map PyData.bool
theorem OpB.val (h : OpB op c) : Op2 op fun a b => asB2 (c a b) := fun a b da db d μ ra rb e => by
  cases q : c da db with
  | none =>
    simp only [asB2, q] at e
    cases e
  | some z =>
    simp only [asB2, q] at e
    cases e
    exact h a b da db z μ ra rb q
theorem e_bin (ho : Op2 op o) (ha : Jd l Fa ta (pV l1)) (hb : Jd l1 Fb tb (pW l2)) : Jd l (bin op Fa Fb) (ta.bind fun a => tb.bind fun b => S.lift (o a b)) (pV l2) := fun k rest ρ μ e => by
  refine (ha k rest ρ μ e).bind fun k1 μ1 a da ⟨z, e1⟩ => ?_
  subst z
  refine (hb k1 rest ρ μ1 e1).bind fun k2 μ2 b db ⟨rb, e2⟩ => ?_
  exact Jl.lift fun d q => ⟨_, μ2, ho _ _ da db d μ2 .dat rb q, rfl, e2⟩
def Op2D (op : Sv → Sv → M Sv) (o : PyData → PyData → Option PyData) : Prop := ∀ da db d μ, o da db = some d → op (.dat da) (.dat db) μ = some (.ok (.dat d) μ)
theorem e_binD (ho : Op2D op o) (ha : Jd l Fa ta (pV l1)) (hb : Jd l1 Fb tb (pV l2)) : Jd l (bin op Fa Fb) (ta.bind fun a => tb.bind fun b => S.lift (o a b)) (pV l2) := fun k rest ρ μ e => by
  refine (ha k rest ρ μ e).bind fun k1 μ1 a da ⟨z, e1⟩ => ?_
  subst z
  refine (hb k1 rest ρ μ1 e1).bind fun k2 μ2 b db ⟨rb, e2⟩ => ?_
  subst rb
  exact Jl.lift fun d q => ⟨_, μ2, ho da db d μ2 q, rfl, e2⟩
/-- .. whose left side is a tagged list -/
theorem e_binS (ho : Op2 op o) (i : Nat) {ds0 ds : List PyData} (hi : l[i]? = some (some (.mt ds0))) (hb : Jd l Fb tb (pW l2)) (hj : l2[i]? = some (some (.mt ds))) : Jd l (bin op (slot i) Fb) (tb.bind fun b => S.lift (o (.list ds) b)) (pV l2) := fun k rest ρ μ e => by
  obtain ⟨s, h1, t, rfl, h3, h4⟩ := e.at_ i _ hi
  intro r k' q
  unfold bin
  rw [bind_ok (slot_at μ h1)]
  refine ((hb k rest ρ μ e).bind fun k2 μ2 b db ⟨rb, e2⟩ => ?_) r k' q
  obtain ⟨s', h1', t', rfl, h3', h4'⟩ := e2.at_ i _ hj
  rw [h1] at h1'
  cases h1'
  exact Jl.lift fun d q => ⟨_, μ2, ho _ _ (.list ds) db d μ2 (.inr ⟨t, ds, rfl, h4', rfl⟩) rb q, rfl, e2⟩
theorem e_binB (ho : OpB op c) (ha : Jd l Fa ta (pV l1)) (hb : Jd l1 Fb tb (pW l2)) : Jd l (bin op Fa Fb) (ta.bind fun a => tb.bind fun b => S.lift (asB2 (c a b))) (pV l2) := e_bin ho.val ha hb
theorem u_bin (ho : OpB op c) (ha : Jd l Fa ta (pV l1)) (hb : Jd l1 Fb tb (pW l2)) : Jd l (tst (bin op Fa Fb)) (ta.bind fun a => tb.bind fun b => S.lift (c a b)) (pB l2) := fun k rest ρ μ e => by
  refine Jl.eqM (m := (Fa ρ).bind fun a => (Fb ρ).bind fun b => (op a b).bind asB) ((ha k rest ρ μ e).bind fun k1 μ1 a da ⟨z, e1⟩ => ?_) ?_
  · subst z
    refine (hb k1 rest ρ μ1 e1).bind fun k2 μ2 b db ⟨rb, e2⟩ => ?_
    refine Jl.lift fun d q => ⟨d, μ2, ?_, rfl, e2⟩
    rw [bind_ok (ho _ _ da db d μ2 .dat rb q)]
    rfl
  · unfold tst bin
    rw [M.assoc]
    congr 1
    funext a
    rw [M.assoc]
/-- .. whose left side is a tagged list -/
theorem u_binS (ho : OpB op c) (i : Nat) {ds0 ds : List PyData} (hi : l[i]? = some (some (.mt ds0))) (hb : Jd l Fb tb (pW l2)) (hj : l2[i]? = some (some (.mt ds))) : Jd l (tst (bin op (slot i) Fb)) (tb.bind fun b => S.lift (c (.list ds) b)) (pB l2) := fun k rest ρ μ e => by
  obtain ⟨s, h1, t, rfl, h3, h4⟩ := e.at_ i _ hi
  intro r k' q
  have z : tst (bin op (slot i) Fb) ρ μ = ((Fb ρ).bind fun b => (op (.ref t) b).bind asB) μ := by
    unfold tst bin
    rw [M.assoc, bind_ok (slot_at μ h1), M.assoc]
  have main : Jl k rest ρ μ ((Fb ρ).bind fun b => (op (.ref t) b).bind asB) (tb.bind fun b => S.lift (c (.list ds) b)) (pB l2) := by
    refine (hb k rest ρ μ e).bind fun k2 μ2 b db ⟨rb, e2⟩ => ?_
    obtain ⟨s', h1', t', rfl, h3', h4'⟩ := e2.at_ i _ hj
    rw [h1] at h1'
    cases h1'
    refine Jl.lift fun d q => ⟨d, μ2, ?_, rfl, e2⟩
    rw [bind_ok (ho _ _ (.list ds) db d μ2 (.inr ⟨t, ds, rfl, h4', rfl⟩) rb q)]
    rfl
  have := main r k' q
  rw [z]
  exact this
def bAnd (a : Bool) (t : S Bool) : S Bool := if a = true then t else S.ret false
def bOr (a : Bool) (t : S Bool) : S Bool := if a = true then S.ret true else t
theorem Jl.ite {α β : Type} {k : Dk} {rest : Mu} {ρ : Rho} {μ : Mu} {c : Bool} {m m' : M α} {t t' : S β} {P : Post α β} (h1 : Jl k rest ρ μ m t P) (h2 : Jl k rest ρ μ m' t' P) : Jl k rest ρ μ (if c = true then m else m') (if c = true then t else t') P := by
  cases c with
  | false =>
    rw [if_neg Bool.false_ne_true, if_neg Bool.false_ne_true]
    exact h2
  | true =>
    rw [if_pos rfl, if_pos rfl]
    exact h1
theorem u_chain (ho : OpB op c) (ho' : OpB op' c') (ha : Jd l Fa ta (pV l1)) (hb : Jd l1 Fb tb (pV l2)) (hc : Jd l2 Fc tc (pW l2)) :
    Jd l (tst (chain op op' Fa Fb Fc)) (ta.bind fun a => tb.bind fun b => (S.lift (c a b)).bind fun z => bAnd z (tc.bind fun d => S.lift (c' b d))) (pB l2) := fun k rest ρ μ e => by
  refine Jl.eqM (m := (Fa ρ).bind fun a => (Fb ρ).bind fun b => (op a b).bind fun z => (asB z).bind fun k => if k = true then (Fc ρ).bind fun c => (op' b c).bind asB else M.ret false) ((ha k rest ρ μ e).bind fun k1 μ1 a da ⟨z, e1⟩ => ?_) ?_
  · subst z
    refine (hb k1 rest ρ μ1 e1).bind fun k2 μ2 b db ⟨z, e2⟩ => ?_
    subst z
    refine Jl.pre fun d q => ?_
    have q2 : ∀ f : Sv → M Bool, (op (.dat da) (.dat db)).bind f μ2 = f (.dat (.bool d)) μ2 := fun f => bind_ok (ho _ _ da db d μ2 .dat .dat q)
    intro r k' h
    rw [q2]
    refine (Jl.ite (c := d) (P := pB l2) ?_ ?_) r k' h
    · refine (hc k2 rest ρ μ2 e2).bind fun k3 μ3 g dg ⟨rg, e3⟩ => ?_
      refine Jl.lift fun d2 q => ⟨d2, μ3, ?_, rfl, e3⟩
      rw [bind_ok (ho' _ _ db dg d2 μ3 .dat rg q)]
      rfl
    · exact Jl.ret ⟨rfl, e2⟩
  · unfold tst chain
    rw [M.assoc]
    congr 1
    funext a
    rw [M.assoc]
    congr 1
    funext b
    rw [M.assoc]
    congr 1
    funext z
    rw [M.assoc]
    congr 1
    funext k
    cases k with
    | false => rfl
    | true =>
      rw [if_pos rfl, if_pos rfl, M.assoc]
theorem u_and {F G : Rho → M Bool} {t u : S Bool} (h : Jd l F t (pB l1)) (h2 : Jd l1 G u (pB l1)) : Jd l (andT F G) (t.bind fun a => bAnd a u) (pB l1) := fun k rest ρ μ e => by
  refine (h k rest ρ μ e).bind fun k1 μ1 a da ⟨z, e1⟩ => ?_
  subst z
  exact Jl.ite (h2 k1 rest ρ μ1 e1) (Jl.ret ⟨rfl, e1⟩)
theorem u_or {F G : Rho → M Bool} {t u : S Bool} (h : Jd l F t (pB l1)) (h2 : Jd l1 G u (pB l1)) : Jd l (orT F G) (t.bind fun a => bOr a u) (pB l1) := fun k rest ρ μ e => by
  refine (h k rest ρ μ e).bind fun k1 μ1 a da ⟨z, e1⟩ => ?_
  subst z
  exact Jl.ite (Jl.ret ⟨rfl, e1⟩) (h2 k1 rest ρ μ1 e1)
theorem u_not {F : Rho → M Bool} {t : S Bool} (h : Jd l F t (pB l1)) : Jd l (notT F) (t.bind fun a => S.ret (!a)) (pB l1) := fun k rest ρ μ e => by
  refine (h k rest ρ μ e).bind fun k1 μ1 a da ⟨z, e1⟩ => ?_
  subst z
  exact Jl.ret ⟨rfl, e1⟩
def toB : PyData → Option Bool
  | .bool b => some b
  | _ => none
theorem u_val (h : Jd l Fa ta (pV l1)) : Jd l (tst Fa) (ta.bind fun a => S.lift (toB a)) (pB l1) := fun k rest ρ μ e => by
  refine (h k rest ρ μ e).bind fun k1 μ1 a da ⟨z, e1⟩ => ?_
  subst z
  refine Jl.lift fun b q => ?_
  cases da <;> cases q
  exact ⟨_, μ1, rfl, rfl, e1⟩
/-- a value that is a test -/
theorem andV_as {F : Rho → M Bool} (Fx : Rho → M Sv) : True := trivial
theorem e_not (h : Jd l Fa ta (pV l1)) : Jd l (notV Fa) (ta.bind fun a => (S.lift (toB a)).bind fun b => S.ret (.bool (!b))) (pV l1) := fun k rest ρ μ e => by
  refine (h k rest ρ μ e).bind fun k1 μ1 a da ⟨z, e1⟩ => ?_
  subst z
  refine Jl.pre fun b q => ?_
  cases da <;> cases q
  intro r k' q
  cases q
  exact ⟨_, μ1, rfl, rfl, e1⟩
def dAnd (a : Bool) (t : S PyData) : S PyData := if a = true then t else S.ret (.bool false)
def dOr (a : Bool) (t : S PyData) : S PyData := if a = true then S.ret (.bool true) else t
theorem e_and (h : Jd l Fa ta (pV l1)) (h2 : Jd l1 Fb tb (pV l1)) : Jd l (andV Fa Fb) (ta.bind fun a => (S.lift (toB a)).bind fun z => dAnd z tb) (pV l1) := fun k rest ρ μ e => by
  refine (h k rest ρ μ e).bind fun k1 μ1 a da ⟨z, e1⟩ => ?_
  subst z
  refine Jl.pre fun b q => ?_
  cases da <;> cases q
  exact Jl.ite (h2 k1 rest ρ μ1 e1) (Jl.ret ⟨rfl, e1⟩)
theorem e_or (h : Jd l Fa ta (pV l1)) (h2 : Jd l1 Fb tb (pV l1)) : Jd l (orV Fa Fb) (ta.bind fun a => (S.lift (toB a)).bind fun z => dOr z tb) (pV l1) := fun k rest ρ μ e => by
  refine (h k rest ρ μ e).bind fun k1 μ1 a da ⟨z, e1⟩ => ?_
  subst z
  refine Jl.pre fun b q => ?_
  cases da <;> cases q
  exact Jl.ite (Jl.ret ⟨rfl, e1⟩) (h2 k1 rest ρ μ1 e1)
theorem e_if {F : Rho → M Bool} {t : S Bool} (h : Jd l F t (pB l1)) (h1 : Jd l1 Fa ta (pV l2)) (h2 : Jd l1 Fb tb (pV l2)) : Jd l (ifV F Fa Fb) (t.bind fun a => if a = true then ta else tb) (pV l2) := fun k rest ρ μ e => by
  refine (h k rest ρ μ e).bind fun k1 μ1 a da ⟨z, e1⟩ => ?_
  subst z
  exact Jl.ite (h1 k1 rest ρ μ1 e1) (h2 k1 rest ρ μ1 e1)
def oNeg : PyData → Option PyData
  | .int i => some (.int (-i))
  | _ => none
theorem e_neg (h : Jd l Fa ta (pV l1)) : Jd l (negV Fa) (ta.bind fun a => S.lift (oNeg a)) (pV l1) := fun k rest ρ μ e => by
  refine (h k rest ρ μ e).bind fun k1 μ1 a da ⟨z, e1⟩ => ?_
  subst z
  refine Jl.lift fun b q => ?_
  cases da <;> cases q
  exact ⟨_, μ1, rfl, rfl, e1⟩
/-! displays, calls -/
theorem a_nil' : Jd l argN (S.ret []) (pA 0 l) := fun k rest ρ μ e => Jl.ret ⟨rfl, rfl, e⟩
theorem a_cons' {Fs : Rho → M (List Sv)} {ts : S (List PyData)} {n : Nat} (h : Jd l Fa ta (pV l1)) (h2 : Jd l1 Fs ts (pA n l2)) : Jd l (argC Fa Fs) (ta.bind fun a => ts.bind fun as => S.ret (a :: as)) (pA (n + 1) l2) := fun k rest ρ μ e => by
  refine (h k rest ρ μ e).bind fun k1 μ1 a da ⟨z, e1⟩ => ?_
  subst z
  refine (h2 k1 rest ρ μ1 e1).bind fun k2 μ2 as ds ⟨z, hn, e2⟩ => ?_
  subst z
  exact Jl.ret ⟨rfl, by rw [List.length_cons, hn], e2⟩
theorem e_tup {Fs : Rho → M (List Sv)} {ts : S (List PyData)} {n : Nat} (h : Jd l Fs ts (pA n l1)) (hn : szOk n = true := by rfl) : Jd l (tupV Fs) (ts.bind fun as => S.ret (.tuple as)) (pV l1) := fun k rest ρ μ e => by
  refine (h k rest ρ μ e).bind fun k1 μ1 as ds ⟨z, hl, e1⟩ => ?_
  subst z
  intro r k' q
  cases q
  refine ⟨_, μ1, ?_, rfl, e1⟩
  rw [List.length_map, hl, if_pos hn]
  unfold mkt
  rw [dats_map]
  rfl
theorem e_lst {Fs : Rho → M (List Sv)} {ts : S (List PyData)} {n : Nat} (h : Jd l Fs ts (pA n l1)) (hn : szOk n = true := by rfl) : Jd l (lstV false Fs) (ts.bind fun as => S.ret (.list as)) (pV l1) := fun k rest ρ μ e => by
  refine (h k rest ρ μ e).bind fun k1 μ1 as ds ⟨z, hl, e1⟩ => ?_
  subst z
  intro r k' q
  cases q
  refine ⟨_, μ1, ?_, rfl, e1⟩
  rw [List.length_map, hl, if_pos hn]
  exact mkl_dat ds μ1
def Bl1 (op : List Sv → M Sv) (o : PyData → Option PyData) : Prop := ∀ a da d μ, Rdr μ a da → o da = some d → op [a] μ = some (.ok (.dat d) μ)
def Bl2 (op : List Sv → M Sv) (o : PyData → PyData → Option PyData) : Prop := ∀ da db d μ, o da db = some d → op [.dat da, .dat db] μ = some (.ok (.dat d) μ)
theorem e_bl1 {op : List Sv → M Sv} {o : PyData → Option PyData} (ho : Bl1 op o) (ha : Jd l Fa ta (pW l1)) : Jd l (callV op (argC Fa argN)) (ta.bind fun a => S.lift (o a)) (pV l1) := fun k rest ρ μ e => by
  refine Jl.eqM (m := (Fa ρ).bind fun a => op [a]) ((ha k rest ρ μ e).bind fun k1 μ1 a da ⟨ra, e1⟩ => ?_) ?_
  · exact Jl.lift fun d q => ⟨_, μ1, ho a da d μ1 ra q, rfl, e1⟩
  · unfold callV argC
    rw [M.assoc]
    rfl
theorem e_bl2 {op : List Sv → M Sv} {o : PyData → PyData → Option PyData} (ho : Bl2 op o) (ha : Jd l Fa ta (pV l1)) (hb : Jd l1 Fb tb (pV l2)) : Jd l (callV op (argC Fa (argC Fb argN))) (ta.bind fun a => tb.bind fun b => S.lift (o a b)) (pV l2) := fun k rest ρ μ e => by
  refine Jl.eqM (m := (Fa ρ).bind fun a => (Fb ρ).bind fun b => op [a, b]) ((ha k rest ρ μ e).bind fun k1 μ1 a da ⟨ra, e1⟩ => ?_) ?_
  · subst ra
    refine (hb k1 rest ρ μ1 e1).bind fun k2 μ2 b db ⟨rb, e2⟩ => ?_
    subst rb
    exact Jl.lift fun d q => ⟨_, μ2, ho da db d μ2 q, rfl, e2⟩
  · unfold callV argC
    rw [M.assoc]
    congr 1
    funext a
    rw [M.assoc, M.assoc]
    rfl
end
end Pf

namespace Pf
open PySem PySem.Spec PyProof.Rows L2
/-! ### targets -/
section
variable {l l1 l2 : En} {Fa Fb Fc : Rho → M Sv} {ta tb tc : S PyData} {σ τ : Type}
abbrev pT (e : σ → En) : Post Rho σ := fun k rest _ μ ρ' s => EnvR (e s) k rest ρ' μ
/-- .. of a comprehension: what was known before can be known again -/
abbrev pTc (l : En) (e : σ → En) : Post Rho σ := fun k rest ρ μ ρ' s => EnvR (e s) k rest ρ' μ ∧ ∀ k2 μ2, EnvR (e s) k2 rest ρ' μ2 → EnvR l k2 rest ρ μ2
def un2 : PyData → Option (PyData × PyData)
  | .tuple [a, b] => some (a, b)
  | _ => none
def un3 : PyData → Option (PyData × PyData × PyData)
  | .tuple [a, b, c] => some (a, b, c)
  | _ => none
theorem un2_some {d : PyData} {p : PyData × PyData} (h : un2 d = some p) : d = .tuple [p.1, p.2] := by
  unfold un2 at h
  split at h
  · cases h
    rfl
  · cases h
theorem un3_some {d : PyData} {p : PyData × PyData × PyData} (h : un3 d = some p) : d = .tuple [p.1, p.2.1, p.2.2] := by
  unfold un3 at h
  split at h
  · cases h
    rfl
  · cases h
theorem tg_nm (i : Nat) (d : PyData) : Jd l (gNm i (.dat d)) (S.ret d) (pT fun d => l.set i (some (.im d))) := fun k rest ρ μ e => Jl.ret (e.setI i d)
theorem tc_nm (i : Nat) (d : PyData) (h : l[i]? = some none) : Jd l (gNm i (.dat d)) (S.ret d) (pTc l fun d => l.set i (some (.im d))) := fun k rest ρ μ e => Jl.ret ⟨e.setI i d, fun _ _ q => q.unset h⟩
theorem tg_tp2 {T1 T2 : Sv → Rho → M Rho} {u1 : PyData → S σ} {u2 : PyData → S τ} {e1 : σ → En} {e2 : σ → τ → En} (d : PyData) (h1 : ∀ a, Jd l (T1 (.dat a)) (u1 a) (pT e1)) (h2 : ∀ s b, Jd (e1 s) (T2 (.dat b)) (u2 b) (pT (e2 s))) :
    Jd l (gTp 2 (gsCons T1 (gsCons T2 gsNil)) (.dat d)) ((S.lift (un2 d)).bind fun p => (u1 p.1).bind fun s => (u2 p.2).bind fun s' => S.ret (s, s')) (pT fun s => e2 s.1 s.2) := fun k rest ρ μ e => Jl.pre fun p q => by
  rw [un2_some q]
  refine Jl.eqM (m := (T1 (.dat p.1) ρ).bind fun ρ' => T2 (.dat p.2) ρ') ((h1 p.1 k rest ρ μ e).bind fun k1 μ1 ρ1 s r1 => ?_) ?_
  · have := h2 s p.2 k1 rest ρ1 μ1 r1
    intro r k' z
    rcases S.bind_inv z with ⟨s', k2, z1, z2⟩ | ⟨c, z1, rfl⟩
    · cases z2
      obtain ⟨a, μ', w1, w2⟩ := this _ _ z1
      exact ⟨a, μ', w1, w2⟩
    · exact this _ _ z1
  · show M.bind _ _ = _
    congr 1
    funext ρ'
    exact M.bind_ret _
theorem tc_tp2 {T1 T2 : Sv → Rho → M Rho} {u1 : PyData → S σ} {u2 : PyData → S τ} {e1 : σ → En} {e2 : σ → τ → En} (d : PyData) (h1 : ∀ a, Jd l (T1 (.dat a)) (u1 a) (pTc l e1)) (h2 : ∀ s b, Jd (e1 s) (T2 (.dat b)) (u2 b) (pTc (e1 s) (e2 s))) :
    Jd l (gTp 2 (gsCons T1 (gsCons T2 gsNil)) (.dat d)) ((S.lift (un2 d)).bind fun p => (u1 p.1).bind fun s => (u2 p.2).bind fun s' => S.ret (s, s')) (pTc l fun s => e2 s.1 s.2) := fun k rest ρ μ e => Jl.pre fun p q => by
  rw [un2_some q]
  refine Jl.eqM (m := (T1 (.dat p.1) ρ).bind fun ρ' => T2 (.dat p.2) ρ') ((h1 p.1 k rest ρ μ e).bind fun k1 μ1 ρ1 s r1 => ?_) ?_
  · have := h2 s p.2 k1 rest ρ1 μ1 r1.1
    intro r k' z
    rcases S.bind_inv z with ⟨s', k2, z1, z2⟩ | ⟨c, z1, rfl⟩
    · cases z2
      obtain ⟨a, μ', w1, w2⟩ := this _ _ z1
      exact ⟨a, μ', w1, w2.1, fun k2 μ2 h => r1.2 k2 μ2 (w2.2 k2 μ2 h)⟩
    · exact this _ _ z1
  · show M.bind _ _ = _
    congr 1
    funext ρ'
    exact M.bind_ret _
theorem tg_tp3 {T1 T2 T3 : Sv → Rho → M Rho} {ω : Type} {u1 : PyData → S σ} {u2 : PyData → S τ} {u3 : PyData → S ω} {e1 : σ → En} {e2 : σ → τ → En} {e3 : σ → τ → ω → En} (d : PyData) (h1 : ∀ a, Jd l (T1 (.dat a)) (u1 a) (pT e1)) (h2 : ∀ s b, Jd (e1 s) (T2 (.dat b)) (u2 b) (pT (e2 s))) (h3 : ∀ s s' b, Jd (e2 s s') (T3 (.dat b)) (u3 b) (pT (e3 s s'))) :
    Jd l (gTp 3 (gsCons T1 (gsCons T2 (gsCons T3 gsNil))) (.dat d)) ((S.lift (un3 d)).bind fun p => (u1 p.1).bind fun s => (u2 p.2.1).bind fun s' => (u3 p.2.2).bind fun s'' => S.ret (s, s', s'')) (pT fun s => e3 s.1 s.2.1 s.2.2) := fun k rest ρ μ e => Jl.pre fun p q => by
  rw [un3_some q]
  refine Jl.eqM (m := (T1 (.dat p.1) ρ).bind fun ρ' => (T2 (.dat p.2.1) ρ').bind fun ρ' => T3 (.dat p.2.2) ρ') ((h1 p.1 k rest ρ μ e).bind fun k1 μ1 ρ1 s r1 => ?_) ?_
  · have := h2 s p.2.1 k1 rest ρ1 μ1 r1
    intro r k' z
    refine (Jl.bind (Q := fun k rest _ μ a s => EnvR (e3 s.1 s.2.1 s.2.2) k rest a μ) this fun k2 μ2 ρ2 s' r2 => ?_) r k' z
    have := h3 s s' p.2.2 k2 rest ρ2 μ2 r2
    intro r k' z
    rcases S.bind_inv z with ⟨s'', k3, z1, z2⟩ | ⟨c, z1, rfl⟩
    · cases z2
      obtain ⟨a, μ', w1, w2⟩ := this _ _ z1
      exact ⟨a, μ', w1, w2⟩
    · exact this _ _ z1
  · show M.bind _ _ = _
    congr 1
    funext ρ'
    show M.bind _ _ = _
    congr 1
    funext ρ''
    exact M.bind_ret _
def stI (ds : List PyData) (i d : PyData) : Option (List PyData) := match i with
  | .int i => (ixN ds.length i).map fun j => ds.set j d
  | _ => none
theorem tg_st (i : Nat) (d : PyData) {ds0 ds : List PyData} {Fk : Rho → M Sv} {tk : S PyData} (hi : l[i]? = some (some (.mt ds0))) (hk : Jd l Fk tk (pV l1)) (hj : l1[i]? = some (some (.mt ds))) :
    Jd l (gSt (slot i) Fk (.dat d)) (tk.bind fun x => S.lift (stI ds x d)) (pT fun ds' => l1.set i (some (.mt ds'))) := fun k rest ρ μ e => by
  obtain ⟨s, h1, t, rfl, h3, h4⟩ := e.at_ i _ hi
  intro r k' q
  unfold gSt
  rw [bind_ok (slot_at μ h1)]
  refine ((hk k rest ρ μ e).bind fun k2 μ2 b db ⟨rb, e2⟩ => ?_) r k' q
  subst rb
  obtain ⟨s', h1', t', rfl, h3', h4'⟩ := e2.at_ i _ hj
  rw [h1] at h1'
  cases h1'
  refine Jl.lift fun ds' q => ?_
  unfold stI at q
  cases db with
  | int x =>
    dsimp only at q
    cases qx : ixN ds.length x with
    | none =>
      rw [qx] at q
      cases q
    | some j =>
      rw [qx] at q
      cases q
      refine ⟨ρ, μ2.set t (.lst ((ds.set j d).map Sv.dat)), ?_, e2.write hj h1 _⟩
      have tg : tagOf (.ref t) μ2 = some (.ok (t, ds.map Sv.dat) μ2) := by
        unfold tagOf
        simp only [h4']
      show M.bind (M.ret x) _ μ2 = _
      rw [bind_ok (show M.ret x μ2 = some (.ok x μ2) from rfl), bind_ok tg]
      dsimp only
      rw [List.length_map, qx]
      rw [List.map_set]
      rfl
  | _ => cases q
/-! ### statements that go on -/
abbrev pN (e : σ → En) : Post Out σ := fun k rest _ μ a s => ∃ ρ', a = .nx ρ' ∧ EnvR (e s) k rest ρ' μ
abbrev based (k : Dk) (rest μ : Mu) : Prop := ∃ g, μ = dkO k ++ rest ++ g
abbrev pR : Post Out PyData := fun k rest _ μ a d => a = .rt (.dat d) ∧ based k rest μ
abbrev pE : Post Out PyData := fun k rest _ μ a d => (a = .rt (.dat d) ∨ ∃ ρ', a = .nx ρ' ∧ d = .none) ∧ based k rest μ
abbrev pM (l : En) : Post Sv (List PyData) := fun k rest ρ μ a ds => ∃ μ0, a = .ref μ0.length ∧ μ = μ0 ++ [.lst (ds.map Sv.dat)] ∧ EnvR l k rest ρ μ0
theorem Jl.same {α β : Type} {k : Dk} {rest : Mu} {ρ : Rho} {μ : Mu} {m : M α} {t : S β} {P : Post α β} (h : Jl k rest ρ μ m (t.bind S.ret) P) : Jl k rest ρ μ m t P := by
  rw [S.bind_ret] at h
  exact h
theorem s_setI (i : Nat) (h : Jd l Fa ta (pV l1)) : Jd l (gSet i Fa) ta (pN fun d => l1.set i (some (.im d))) := fun k rest ρ μ e => Jl.same <| by
  refine (h k rest ρ μ e).bind fun k1 μ1 a da ⟨z, e1⟩ => ?_
  subst z
  exact Jl.ret ⟨_, rfl, e1.setI i da⟩
theorem s_setM (i : Nat) {t : S (List PyData)} (h : Jd l Fa t (pM l1)) : Jd l (gSet i Fa) t (pN fun ds => l1.set i (some (.mt ds))) := fun k rest ρ μ e => Jl.same <| by
  refine (h k rest ρ μ e).bind fun k1 μ1 a ds ⟨μ0, z, z2, e1⟩ => ?_
  subst z z2
  exact Jl.ret ⟨_, rfl, e1.setM i ds⟩
theorem m_lst {Fs : Rho → M (List Sv)} {ts : S (List PyData)} {n : Nat} (h : Jd l Fs ts (pA n l1)) (hn : szOk n = true := by rfl) : Jd l (lstV true Fs) ts (pM l1) := fun k rest ρ μ e => Jl.same <| by
  refine (h k rest ρ μ e).bind fun k1 μ1 as ds ⟨z, hl, e1⟩ => ?_
  subst z
  intro r k' q
  cases q
  refine ⟨.ref μ1.length, μ1 ++ [.lst (ds.map Sv.dat)], ?_, μ1, rfl, rfl, e1⟩
  rw [List.length_map, hl, if_pos hn]
  rfl
def OpM (op : Sv → Sv → M Sv) (o : PyData → PyData → Option (List PyData)) : Prop := ∀ b da db ds μ, Rdr μ b db → o da db = some ds → op (.dat da) b μ = some (.ok (.ref μ.length) (μ ++ [.lst (ds.map Sv.dat)]))
theorem m_bin {op : Sv → Sv → M Sv} {o : PyData → PyData → Option (List PyData)} (ho : OpM op o) (ha : Jd l Fa ta (pV l1)) (hb : Jd l1 Fb tb (pW l2)) : Jd l (bin op Fa Fb) (ta.bind fun a => tb.bind fun b => S.lift (o a b)) (pM l2) := fun k rest ρ μ e => by
  refine (ha k rest ρ μ e).bind fun k1 μ1 a da ⟨z, e1⟩ => ?_
  subst z
  refine (hb k1 rest ρ μ1 e1).bind fun k2 μ2 b db ⟨rb, e2⟩ => ?_
  exact Jl.lift fun ds q => ⟨_, _, ho _ da db ds μ2 rb q, μ2, rfl, rfl, e2⟩
def MkM (op : List Sv → M Sv) (o : PyData → Option (List PyData)) : Prop := ∀ a da ds μ, Rdr μ a da → o da = some ds → op [a] μ = some (.ok (.ref μ.length) (μ ++ [.lst (ds.map Sv.dat)]))
theorem m_bl1 {op : List Sv → M Sv} {o : PyData → Option (List PyData)} (ho : MkM op o) (ha : Jd l Fa ta (pW l1)) : Jd l (callV op (argC Fa argN)) (ta.bind fun a => S.lift (o a)) (pM l1) := fun k rest ρ μ e => by
  refine Jl.eqM (m := (Fa ρ).bind fun a => op [a]) ((ha k rest ρ μ e).bind fun k1 μ1 a da ⟨ra, e1⟩ => ?_) ?_
  · exact Jl.lift fun ds q => ⟨_, _, ho a da ds μ1 ra q, μ1, rfl, rfl, e1⟩
  · unfold callV argC
    rw [M.assoc]
    rfl
theorem s_par' (i j : Nat) (ha : Jd l Fa ta (pV l1)) (hb : Jd l1 Fb tb (pV l2)) : Jd l (gPar i j (argC Fa (argC Fb argN))) (ta.bind fun a => tb.bind fun b => S.ret (a, b)) (pN fun p => (l2.set i (some (.im p.1))).set j (some (.im p.2))) := fun k rest ρ μ e => by
  refine Jl.eqM (m := (Fa ρ).bind fun a => (Fb ρ).bind fun b => M.ret (.nx ((ρ.set i (some a)).set j (some b)))) ((ha k rest ρ μ e).bind fun k1 μ1 a da ⟨ra, e1⟩ => ?_) ?_
  · subst ra
    refine (hb k1 rest ρ μ1 e1).bind fun k2 μ2 b db ⟨rb, e2⟩ => ?_
    subst rb
    exact Jl.ret ⟨_, rfl, (e2.setI i da).setI j db⟩
  · unfold gPar argC
    rw [M.assoc]
    congr 1
    funext a
    rw [M.assoc, M.assoc]
    rfl
theorem s_parM (i j : Nat) {t : S (List PyData)} (ha : Jd l Fa ta (pV l1)) (hb : Jd l1 Fb t (pM l2)) : Jd l (gPar i j (argC Fa (argC Fb argN))) (ta.bind fun a => t.bind fun b => S.ret (a, b)) (pN fun p => (l2.set i (some (.im p.1))).set j (some (.mt p.2))) := fun k rest ρ μ e => by
  refine Jl.eqM (m := (Fa ρ).bind fun a => (Fb ρ).bind fun b => M.ret (.nx ((ρ.set i (some a)).set j (some b)))) ((ha k rest ρ μ e).bind fun k1 μ1 a da ⟨ra, e1⟩ => ?_) ?_
  · subst ra
    refine (hb k1 rest ρ μ1 e1).bind fun k2 μ2 b db ⟨μ0, z, z2, e2⟩ => ?_
    subst z z2
    exact Jl.ret ⟨_, rfl, (e2.setI i da).setM j db⟩
  · unfold gPar argC
    rw [M.assoc]
    congr 1
    funext a
    rw [M.assoc, M.assoc]
    rfl
theorem s_par3' (i j m : Nat) (ha : Jd l Fa ta (pV l1)) (hb : Jd l1 Fb tb (pV l2)) {l3 : En} (hc : Jd l2 Fc tc (pV l3)) : Jd l (gPar3 i j m (argC Fa (argC Fb (argC Fc argN)))) (ta.bind fun a => tb.bind fun b => tc.bind fun c => S.ret (a, b, c)) (pN fun p => ((l3.set i (some (.im p.1))).set j (some (.im p.2.1))).set m (some (.im p.2.2))) := fun k rest ρ μ e => by
  refine Jl.eqM (m := (Fa ρ).bind fun a => (Fb ρ).bind fun b => (Fc ρ).bind fun c => M.ret (.nx (((ρ.set i (some a)).set j (some b)).set m (some c)))) ((ha k rest ρ μ e).bind fun k1 μ1 a da ⟨ra, e1⟩ => ?_) ?_
  · subst ra
    refine (hb k1 rest ρ μ1 e1).bind fun k2 μ2 b db ⟨rb, e2⟩ => ?_
    subst rb
    refine (hc k2 rest ρ μ2 e2).bind fun k3 μ3 c dc ⟨rc, e3⟩ => ?_
    subst rc
    exact Jl.ret ⟨_, rfl, ((e3.setI i da).setI j db).setI m dc⟩
  · unfold gPar3 argC
    rw [M.assoc]
    congr 1
    funext a
    rw [M.assoc, M.assoc]
    congr 1
    funext b
    rw [M.assoc, M.assoc]
    rfl
theorem s_par3M (i j m : Nat) {t : S (List PyData)} (ha : Jd l Fa ta (pV l1)) (hb : Jd l1 Fb tb (pV l2)) {l3 : En} (hc : Jd l2 Fc t (pM l3)) : Jd l (gPar3 i j m (argC Fa (argC Fb (argC Fc argN)))) (ta.bind fun a => tb.bind fun b => t.bind fun c => S.ret (a, b, c)) (pN fun p => ((l3.set i (some (.im p.1))).set j (some (.im p.2.1))).set m (some (.mt p.2.2))) := fun k rest ρ μ e => by
  refine Jl.eqM (m := (Fa ρ).bind fun a => (Fb ρ).bind fun b => (Fc ρ).bind fun c => M.ret (.nx (((ρ.set i (some a)).set j (some b)).set m (some c)))) ((ha k rest ρ μ e).bind fun k1 μ1 a da ⟨ra, e1⟩ => ?_) ?_
  · subst ra
    refine (hb k1 rest ρ μ1 e1).bind fun k2 μ2 b db ⟨rb, e2⟩ => ?_
    subst rb
    refine (hc k2 rest ρ μ2 e2).bind fun k3 μ3 c dc ⟨μ0, z, z2, e3⟩ => ?_
    subst z z2
    exact Jl.ret ⟨_, rfl, ((e3.setI i da).setI j db).setM m dc⟩
  · unfold gPar3 argC
    rw [M.assoc]
    congr 1
    funext a
    rw [M.assoc, M.assoc]
    congr 1
    funext b
    rw [M.assoc, M.assoc]
    rfl
theorem s_asg' {T : Sv → Rho → M Rho} {u : PyData → S σ} {e' : σ → En} (h : Jd l Fa ta (pV l1)) (hT : ∀ d, Jd l1 (T (.dat d)) (u d) (pT e')) : Jd l (gAsg Fa T) (ta.bind u) (pN e') := fun k rest ρ μ e => by
  refine (h k rest ρ μ e).bind fun k1 μ1 a da ⟨z, e1⟩ => Jl.same ?_
  subst z
  refine (hT da k1 rest ρ μ1 e1).bind fun k2 μ2 ρ2 s e2 => ?_
  exact Jl.ret ⟨_, rfl, e2⟩
theorem s_expr' (h : Jd l Fa ta (pV l1)) : Jd l (gExpr Fa) ta (pN fun _ => l1) := fun k rest ρ μ e => Jl.same <| by
  refine (h k rest ρ μ e).bind fun k1 μ1 a da ⟨z, e1⟩ => ?_
  exact Jl.ret ⟨_, rfl, e1⟩
def appD (ds : List PyData) (d : PyData) : Option (List PyData) := if ds.length + 1 ≤ 1000000 then some (ds ++ [d]) else none
def popD (ds : List PyData) : Option (List PyData) := if ds = [] then none else some ds.dropLast
theorem s_app (i : Nat) {ds0 ds : List PyData} (hi : l[i]? = some (some (.mt ds0))) (hb : Jd l Fb tb (pV l1)) (hj : l1[i]? = some (some (.mt ds))) : Jd l (gExpr (appV (slot i) Fb)) (tb.bind fun d => S.lift (appD ds d)) (pN fun ds' => l1.set i (some (.mt ds'))) := fun k rest ρ μ e => by
  obtain ⟨s, h1, t, rfl, h3, h4⟩ := e.at_ i _ hi
  have tg : ∀ {μ2 : Mu} {xs : List PyData}, μ2[t]? = some (.lst (xs.map Sv.dat)) → tagOf (.ref t) μ2 = some (.ok (t, xs.map Sv.dat) μ2) := fun {μ2 xs} h4 => by
    unfold tagOf
    simp only [h4]
  intro r k' q
  have z : gExpr (appV (slot i) Fb) ρ μ = ((Fb ρ).bind fun x => ((tagOf (.ref t)).bind fun z => if szOk (z.2.length + 1) = true then (wrt z.1 (z.2 ++ [x])).bind fun _ => M.ret (Sv.dat .none) else M.fail).bind fun _ => M.ret (.nx ρ)) μ := by
    unfold gExpr appV
    rw [M.assoc, bind_ok (slot_at μ h1), M.assoc, bind_ok (tg h4), M.assoc]
  have main : Jl k rest ρ μ ((Fb ρ).bind fun x => ((tagOf (.ref t)).bind fun z => if szOk (z.2.length + 1) = true then (wrt z.1 (z.2 ++ [x])).bind fun _ => M.ret (Sv.dat .none) else M.fail).bind fun _ => M.ret (.nx ρ)) (tb.bind fun d => S.lift (appD ds d)) (pN fun ds' => l1.set i (some (.mt ds'))) := by
    refine (hb k rest ρ μ e).bind fun k2 μ2 b db ⟨rb, e2⟩ => ?_
    subst rb
    obtain ⟨s', h1', t', rfl, h3', h4'⟩ := e2.at_ i _ hj
    rw [h1] at h1'
    cases h1'
    refine Jl.lift fun ds' q => ?_
    unfold appD at q
    split at q
    · rename_i hsz
      cases q
      refine ⟨.nx ρ, μ2.set t (.lst ((ds ++ [db]).map Sv.dat)), ?_, ρ, rfl, e2.write hj h1 _⟩
      have sz : szOk ((ds.map Sv.dat).length + 1) = true := decide_eq_true (by rw [List.length_map]; exact hsz)
      rw [M.assoc, bind_ok (tg h4')]
      dsimp only
      rw [if_pos sz, List.map_append]
      rfl
    · cases q
  have := main r k' q
  rw [z]
  exact this
theorem s_pop (i : Nat) {ds : List PyData} (hi : l[i]? = some (some (.mt ds))) : Jd l (gExpr (popV (slot i))) (S.lift (popD ds)) (pN fun ds' => l.set i (some (.mt ds'))) := fun k rest ρ μ e => by
  obtain ⟨s, h1, t, rfl, h3, h4⟩ := e.at_ i _ hi
  have tg : tagOf (.ref t) μ = some (.ok (t, ds.map Sv.dat) μ) := by
    unfold tagOf
    simp only [h4]
  refine Jl.lift fun ds' q => ?_
  unfold popD at q
  split at q
  · cases q
  · rename_i hne
    cases q
    refine ⟨.nx ρ, μ.set t (.lst (ds.dropLast.map Sv.dat)), ?_, ρ, rfl, e.write hi h1 _⟩
    unfold gExpr popV
    rw [M.assoc, bind_ok (slot_at μ h1), M.assoc, bind_ok tg]
    dsimp only
    have hl : ds.length - 1 < ds.length := by
      have : ds.length ≠ 0 := fun z => hne (List.length_eq_zero_iff.mp z)
      omega
    have hx : (ds.map Sv.dat)[(ds.map Sv.dat).length - 1]? = some (.dat ds[ds.length - 1]) := by
      rw [List.length_map, List.getElem?_map, List.getElem?_eq_getElem hl]
      rfl
    rw [hx]
    have hd : (ds.map Sv.dat).dropLast = ds.dropLast.map Sv.dat := by simp
    rw [hd]
    rfl
theorem s_aug {op : Sv → Sv → M Sv} {o : PyData → PyData → Option PyData} (i : Nat) (ho : Op2 op o) {d0 : PyData} (hi : l[i]? = some (some (.im d0))) (hb : Jd l Fb tb (pV l1)) : Jd l (gAug i op Fb) (tb.bind fun b => S.lift (o d0 b)) (pN fun d => l1.set i (some (.im d))) := fun k rest ρ μ e => by
  obtain ⟨s, h1, h2⟩ := e.at_ i _ hi
  cases h2
  intro r k' q
  unfold gAug
  rw [bind_ok (slot_at μ h1)]
  refine ((hb k rest ρ μ e).bind fun k1 μ1 a da ⟨z, e1⟩ => ?_) r k' q
  subst z
  refine Jl.lift fun d q => ⟨.nx (ρ.set i (some (.dat d))), μ1, ?_, _, rfl, e1.setI i d⟩
  rw [bind_ok (ho _ _ _ _ d μ1 .dat .dat q)]
  rfl
/-! ### blocks -/
theorem n_end {G : Rho → M Out} {t : S σ} {e : σ → En} {e' : τ → En} (f : σ → τ) (h : Jd l G t (pN e)) (w : ∀ s, Wkn (e s) (e' (f s))) : Jd l G (t.bind fun s => S.ret (f s)) (pN e') := fun k rest ρ μ q r k' z => by
  rcases S.bind_inv z with ⟨s, k1, z1, z2⟩ | ⟨c, z1, rfl⟩
  · cases z2
    obtain ⟨a, μ', w1, ρ', w2, w3⟩ := h k rest ρ μ q _ _ z1
    exact ⟨a, μ', w1, ρ', w2, w3.weak (w s)⟩
  · exact h k rest ρ μ q _ _ z1
theorem n_skip {e' : τ → En} (s : τ) (w : Wkn l (e' s)) : Jd l gSkip (S.ret s) (pN e') := fun k rest ρ μ q => Jl.ret ⟨ρ, rfl, q.weak w⟩
theorem j_wk {α β : Type} {G : Rho → M α} {t : S β} {P : Post α β} (w : Wkn l l1) (h : Jd l1 G t P) : Jd l G t P := fun k rest ρ μ q => h k rest ρ μ (q.weak w)
/-- one statement after another -/
theorem r_seq {β : Type} {G G' : Rho → M Out} {t : S σ} {u : σ → S β} {e : σ → En} {P : Dk → Mu → Mu → Out → β → Prop} (h : Jd l G t (pN e)) (h2 : ∀ s, Jd (e s) G' (u s) fun k rest _ μ a b => P k rest μ a b) : Jd l (gSeq G G') (t.bind u) fun k rest _ μ a b => P k rest μ a b := fun k rest ρ μ q => by
  refine (h k rest ρ μ q).bind fun k1 μ1 a s ⟨ρ', z, q1⟩ => ?_
  subst z
  exact h2 s k1 rest ρ' μ1 q1
theorem r_ret (h : Jd l Fa ta (pV l1)) : Jd l (gRet Fa) ta pR := fun k rest ρ μ e => Jl.same <| by
  refine (h k rest ρ μ e).bind fun k1 μ1 a da ⟨z, e1⟩ => ?_
  subst z
  exact Jl.ret ⟨rfl, e1.pre⟩
theorem r_retN : Jd l (fun _ => M.ret (.rt (.dat .none))) (S.ret .none) pR := fun k rest ρ μ e => Jl.ret ⟨rfl, e.pre⟩
theorem r_end : Jd l gSkip (S.ret .none) pE := fun k rest ρ μ e => Jl.ret ⟨.inr ⟨_, rfl, rfl⟩, e.pre⟩
theorem r_fall {G : Rho → M Out} {t : S σ} {e : σ → En} (h : Jd l G t (pN e)) : Jd l G (t.bind fun _ => S.ret .none) pE := fun k rest ρ μ q r k' z => by
  rcases S.bind_inv z with ⟨s, k1, z1, z2⟩ | ⟨c, z1, rfl⟩
  · cases z2
    obtain ⟨a, μ', w1, ρ', w2, w3⟩ := h k rest ρ μ q _ _ z1
    exact ⟨a, μ', w1, .inr ⟨ρ', w2, rfl⟩, w3.pre⟩
  · exact h k rest ρ μ q _ _ z1
theorem r_e {G : Rho → M Out} {t : S PyData} (h : Jd l G t pR) : Jd l G t pE := fun k rest ρ μ q => (h k rest ρ μ q).weak fun _ _ _ _ ⟨a, b⟩ => ⟨.inl a, b⟩
/-- if .. return, and the rest -/
theorem r_ifR {F : Rho → M Bool} {G G' : Rho → M Out} {t : S Bool} {tG tR : S PyData} (h : Jd l F t (pB l1)) (h1 : Jd l1 G tG pR) (h2 : Jd l1 G' tR pR) : Jd l (gSeq (gIf F G gSkip) G') (t.bind fun a => if a = true then tG else tR) pR := fun k rest ρ μ e => by
  refine Jl.eqM (m := (F ρ).bind fun k => if k = true then (G ρ).bind (fun o => match o with | .nx ρ' => G' ρ' | o => M.ret o) else G' ρ) ((h k rest ρ μ e).bind fun k1 μ1 a da ⟨z, e1⟩ => ?_) ?_
  · subst z
    refine Jl.ite ?_ (h2 k1 rest ρ μ1 e1)
    refine Jl.same ((h1 k1 rest ρ μ1 e1).bind fun k2 μ2 a d ⟨z, b⟩ => ?_)
    subst z
    exact Jl.ret ⟨rfl, b⟩
  · unfold gSeq gIf
    rw [M.assoc]
    congr 1
    funext b
    cases b <;> rfl
theorem r_ifE {F : Rho → M Bool} {G G' : Rho → M Out} {t : S Bool} {tG tR : S PyData} (h : Jd l F t (pB l1)) (h1 : Jd l1 G tG pR) (h2 : Jd l1 G' tR pE) : Jd l (gSeq (gIf F G gSkip) G') (t.bind fun a => if a = true then tG else tR) pE := fun k rest ρ μ e => by
  refine Jl.eqM (m := (F ρ).bind fun k => if k = true then (G ρ).bind (fun o => match o with | .nx ρ' => G' ρ' | o => M.ret o) else G' ρ) ((h k rest ρ μ e).bind fun k1 μ1 a da ⟨z, e1⟩ => ?_) ?_
  · subst z
    refine Jl.ite ?_ (h2 k1 rest ρ μ1 e1)
    refine Jl.same ((h1 k1 rest ρ μ1 e1).bind fun k2 μ2 a d ⟨z, b⟩ => ?_)
    subst z
    exact Jl.ret ⟨.inl rfl, b⟩
  · unfold gSeq gIf
    rw [M.assoc]
    congr 1
    funext b
    cases b <;> rfl
theorem q_if {β : Type} {F : Rho → M Bool} {G G' : Rho → M Out} {t : S Bool} {tG tR : S β} {P : Post Out β} (h : Jd l F t (pB l1)) (h1 : Jd l1 G tG P) (h2 : Jd l1 G' tR P) : Jd l (gIf F G G') (t.bind fun a => if a = true then tG else tR) P := fun k rest ρ μ e => by
  refine (h k rest ρ μ e).bind fun k1 μ1 a da ⟨z, e1⟩ => ?_
  subst z
  exact Jl.ite (h1 k1 rest ρ μ1 e1) (h2 k1 rest ρ μ1 e1)
/-! ### flows -/
inductive Fl (σ : Type) where
  | nx (s : σ)
  | rt (d : PyData)
  | bk (s : σ)
  | ct (s : σ)
def pS (x : Bool) (e : σ → En) : Post Out (Fl σ) := fun k rest _ μ a s => match a, s with
  | .nx ρ', .nx s => x = true ∧ EnvR (e s) k rest ρ' μ
  | .rt v, .rt d => v = .dat d ∧ based k rest μ
  | .bk ρ', .bk s => EnvR (e s) k rest ρ' μ
  | .ct ρ', .ct s => EnvR (e s) k rest ρ' μ
  | _, _ => False
theorem f_ret {x : Bool} {e' : σ → En} (h : Jd l Fa ta (pV l1)) : Jd l (gRet Fa) (ta.bind fun d => S.ret (.rt d)) (pS x e') := fun k rest ρ μ e => by
  refine (h k rest ρ μ e).bind fun k1 μ1 a da ⟨z, e1⟩ => ?_
  subst z
  exact Jl.ret ⟨rfl, e1.pre⟩
theorem f_nx {G : Rho → M Out} {t : S σ} {e : σ → En} {e' : τ → En} (f : σ → τ) (h : Jd l G t (pN e)) (w : ∀ s, Wkn (e s) (e' (f s))) : Jd l G (t.bind fun s => S.ret (.nx (f s))) (pS true e') := fun k rest ρ μ q r k' z => by
  rcases S.bind_inv z with ⟨s, k1, z1, z2⟩ | ⟨c, z1, rfl⟩
  · cases z2
    obtain ⟨a, μ', w1, ρ', w2, w3⟩ := h k rest ρ μ q _ _ z1
    subst w2
    exact ⟨_, μ', w1, rfl, w3.weak (w s)⟩
  · exact h k rest ρ μ q _ _ z1
theorem f_skip {e' : τ → En} (s : τ) (w : Wkn l (e' s)) : Jd l gSkip (S.ret (.nx s)) (pS true e') := fun k rest ρ μ q => Jl.ret ⟨rfl, q.weak w⟩
theorem f_bk {x : Bool} {e' : τ → En} (s : τ) (w : Wkn l (e' s)) : Jd l (fun ρ => M.ret (.bk ρ)) (S.ret (.bk s)) (pS x e') := fun k rest ρ μ q => Jl.ret (q.weak w : EnvR _ _ _ _ _)
theorem f_ct {x : Bool} {e' : τ → En} (s : τ) (w : Wkn l (e' s)) : Jd l (fun ρ => M.ret (.ct ρ)) (S.ret (.ct s)) (pS x e') := fun k rest ρ μ q => Jl.ret (q.weak w : EnvR _ _ _ _ _)
theorem f_seq {x : Bool} {G G' : Rho → M Out} {t : S σ} {u : σ → S (Fl τ)} {e : σ → En} {e' : τ → En} (h : Jd l G t (pN e)) (h2 : ∀ s, Jd (e s) G' (u s) (pS x e')) : Jd l (gSeq G G') (t.bind u) (pS x e') := fun k rest ρ μ q => by
  refine (h k rest ρ μ q).bind fun k1 μ1 a s ⟨ρ', z, q1⟩ => ?_
  subst z
  exact h2 s k1 rest ρ' μ1 q1
/-- if .. that leaves, and the rest -/
theorem f_if {x : Bool} {F : Rho → M Bool} {G G' : Rho → M Out} {t : S Bool} {tG tR : S (Fl τ)} {e' : τ → En} (h : Jd l F t (pB l1)) (h1 : Jd l1 G tG (pS false e')) (h2 : Jd l1 G' tR (pS x e')) : Jd l (gSeq (gIf F G gSkip) G') (t.bind fun a => if a = true then tG else tR) (pS x e') := fun k rest ρ μ e => by
  refine Jl.eqM (m := (F ρ).bind fun k => if k = true then (G ρ).bind (fun o => match o with | .nx ρ' => G' ρ' | o => M.ret o) else G' ρ) ((h k rest ρ μ e).bind fun k1 μ1 a da ⟨z, e1⟩ => ?_) ?_
  · subst z
    refine Jl.ite ?_ (h2 k1 rest ρ μ1 e1)
    refine Jl.same ((h1 k1 rest ρ μ1 e1).bind fun k2 μ2 a d p => ?_)
    unfold pS at p
    split at p
    · exact absurd p.1 Bool.false_ne_true
    · exact Jl.ret p
    · exact Jl.ret p
    · exact Jl.ret p
    · exact p.elim
  · unfold gSeq gIf
    rw [M.assoc]
    congr 1
    funext b
    cases b <;> rfl
/-- the last if of a body, without an else -/
theorem f_ifL {F : Rho → M Bool} {G : Rho → M Out} {t : S Bool} {tG : S (Fl τ)} {e' : τ → En} (s : τ) (h : Jd l F t (pB l1)) (h1 : Jd l1 G tG (pS true e')) (w : Wkn l1 (e' s)) : Jd l (gIf F G gSkip) (t.bind fun a => if a = true then tG else S.ret (.nx s)) (pS true e') := q_if h h1 (f_skip s w)
theorem f_x {G : Rho → M Out} {t : S (Fl τ)} {e' : τ → En} (h : Jd l G t (pS false e')) : Jd l G t (pS true e') := fun k rest ρ μ q => (h k rest ρ μ q).weak fun k' μ' a b p => by
  unfold pS at p ⊢
  split at p
  · exact absurd p.1 Bool.false_ne_true
  · exact p
  · exact p
  · exact p
  · exact p.elim
/-- a loop that may return, and the rest of a body -/
def flR (o : Fl σ) (f : σ → S PyData) : S PyData := match o with
  | .nx s => f s
  | .rt d => S.ret d
  | _ => S.fail
theorem r_flow {G G' : Rho → M Out} {t : S (Fl σ)} {u : σ → S PyData} {e : σ → En} (h : Jd l G t (pS true e)) (h2 : ∀ s, Jd (e s) G' (u s) pR) : Jd l (gSeq G G') (t.bind fun o => flR o u) pR := fun k rest ρ μ q => by
  refine (h k rest ρ μ q).bind fun k1 μ1 a s p => ?_
  unfold pS at p
  split at p
  · exact h2 _ k1 rest _ μ1 p.2
  · obtain ⟨z, b⟩ := p
    subst z
    exact Jl.ret ⟨rfl, b⟩
  · exact fun r k' z => nomatch z
  · exact fun r k' z => nomatch z
  · exact p.elim
def flF (o : Fl σ) (f : σ → S (Fl τ)) : S (Fl τ) := match o with
  | .nx s => f s
  | .rt d => S.ret (.rt d)
  | _ => S.fail
theorem f_flow {x : Bool} {G G' : Rho → M Out} {t : S (Fl σ)} {u : σ → S (Fl τ)} {e : σ → En} {e' : τ → En} (h : Jd l G t (pS true e)) (h2 : ∀ s, Jd (e s) G' (u s) (pS x e')) : Jd l (gSeq G G') (t.bind fun o => flF o u) (pS x e') := fun k rest ρ μ q => by
  refine (h k rest ρ μ q).bind fun k1 μ1 a s p => ?_
  unfold pS at p
  split at p
  · exact h2 _ k1 rest _ μ1 p.2
  · obtain ⟨z, b⟩ := p
    subst z
    exact Jl.ret ⟨rfl, b⟩
  · exact fun r k' z => nomatch z
  · exact fun r k' z => nomatch z
  · exact p.elim
/-- a loop that may return, at the end of a loop's body -/
theorem f_flowL {G : Rho → M Out} {t : S (Fl σ)} {e : σ → En} {e' : τ → En} (f : σ → τ) (h : Jd l G t (pS true e)) (w : ∀ s, Wkn (e s) (e' (f s))) : Jd l G (t.bind fun o => flF o fun s => S.ret (.nx (f s))) (pS true e') := fun k rest ρ μ q => Jl.eqM (m := (G ρ).bind M.ret) (by
  refine (h k rest ρ μ q).bind fun k1 μ1 a s p => ?_
  unfold pS at p
  split at p
  · exact Jl.ret ⟨rfl, p.2.weak (w _)⟩
  · exact Jl.ret p
  · exact fun r k' z => nomatch z
  · exact fun r k' z => nomatch z
  · exact p.elim) (M.bind_ret _).symm
end
end Pf

set_option maxHeartbeats 1000000
namespace Pf
open PySem PySem.Spec PyProof.Rows L2
/-! ### zip of a tuple and a list, in any order -/
/-- true: a tuple, false: a list -/
def SqG (b : Bool) (K : PySem.W.Frag) (H : Hp) (a : Addr) (xs : List V) : Prop := match b with
  | true => SqT K H a xs
  | false => SqL K H a xs
def HpG (b : Bool) (h : Heap) (a : Addr) (its : Array Value) : Prop := match b with
  | true => h.IsTuple a its
  | false => h.IsList a its
def ItG (b : Bool) (h : Heap) (it a : Addr) (i : Nat) : Prop := match b with
  | true => h.IsTupleIter it a i
  | false => h.IsListIter it a i
def itObj (b : Bool) (a : Addr) : Obj := match b with
  | true => { cls := .type "tuple_iterator", data := .fields #[.ref a, .int 0 0] }
  | false => { cls := .type "list_iterator", data := .fields #[.ref a, .int 0 0] }
theorem begG (b : Bool) (a : Addr) (its : Array Value) : Begins (.ref a) (itObj b a) fun h => HpG b h a its := by
  cases b with
  | true => exact begins_tuple a its
  | false => exact begins_list a its
theorem drawG (b : Bool) {prog : Program} {w : World} {A : Around} (hh : A.handled = none) (it a : Addr) (hne : a ≠ it) (its : Array Value) :
    Draws prog w A it [it, a] its.size (fun i v => its[i]? = some v) (fun i h => ItG b h it a i ∧ HpG b h a its) := by
  cases b with
  | true => exact Draws.tuple hh it a hne its
  | false => exact Draws.list hh it a hne its
/-- an iterator that is at its end, or is not yet there -/
theorem drawE (b : Bool) {prog : Program} {w : World} {A : Around} (hh : A.handled = none) (it a : Addr) (hne : a ≠ it) (its : Array Value) (i : Nat) (hi : its.size ≤ i) :
    Draws prog w A it [it, a] i (fun _ _ => False) (fun j h => j = i ∧ ItG b h it a j ∧ HpG b h a its) := by
  have hx : its[i]? = none := by simp [hi]
  cases b with
  | true => exact ⟨fun _ _ st => let ⟨o, ho, _⟩ := st.2.1; ⟨o, ho⟩, fun _ _ _ st hk => ⟨st.1, Heap.IsTupleIter.at st.2.1 fun o e => hk it (by simp) o e, Heap.IsTuple.at st.2.2 fun o e => hk a (by simp) o e⟩, fun j s Q E hj st _ => absurd st.1 (Nat.ne_of_lt hj), fun s Q E st hE => PySem.wpAny_nextOf_tuple_end hh st.2.1 st.2.2 hx hE⟩
  | false => exact ⟨fun _ _ st => let ⟨o, ho, _⟩ := st.2.1; ⟨o, ho⟩, fun _ _ _ st hk => ⟨st.1, Heap.IsListIter.at st.2.1 fun o e => hk it (by simp) o e, Heap.IsList.at st.2.2 fun o e => hk a (by simp) o e⟩, fun j s Q E hj st _ => absurd st.1 (Nat.ne_of_lt hj), fun s Q E st hE => PySem.wpAny_nextOf_list_end hh st.2.1 st.2.2 hx hE⟩
theorem drawAt (b : Bool) {prog : Program} {w : World} {A : Around} (hh : A.handled = none) (it a : Addr) (hne : a ≠ it) (its : Array Value) (i : Nat) {h : Heap} (h1 : ItG b h it a i) (h2 : HpG b h a its) :
    ∃ n P St, Draws prog w A it [it, a] n P St ∧ St i h ∧ i ≤ n ∧ (its.size ≤ i → i = n) := by
  by_cases q : its.size ≤ i
  · exact ⟨_, _, _, drawE b hh it a hne its i q, ⟨rfl, h1, h2⟩, Nat.le_refl _, fun _ => rfl⟩
  · exact ⟨_, _, _, drawG b hh it a hne its, ⟨h1, h2⟩, by omega, fun z => absurd z q⟩
theorem ItG.obj {b : Bool} {h : Heap} {it a : Addr} {i : Nat} (x : ItG b h it a i) : ∃ o, h.get? it = some o ∧ ∀ v, o.data ≠ .cell v := by
  cases b with
  | true =>
    obtain ⟨o, e, _, d⟩ := x
    exact ⟨o, e, fun v q => by rw [d] at q; cases q⟩
  | false =>
    obtain ⟨o, e, _, d⟩ := x
    exact ⟨o, e, fun v q => by rw [d] at q; cases q⟩
theorem ItG.carry {b : Bool} {h h' : Heap} {it a : Addr} {i : Nat} (x : ItG b h it a i) (k : ∀ o, h.get? it = some o → h'.get? it = some o) : ItG b h' it a i := by
  cases b with
  | true => exact Heap.IsTupleIter.at x k
  | false => exact Heap.IsListIter.at x k
theorem ItG.new {b : Bool} {h : Heap} {it a : Addr} (e : h.get? it = some (itObj b a)) : ItG b h it a 0 := by
  cases b with
  | true => exact ⟨_, e, rfl, rfl⟩
  | false => exact ⟨_, e, rfl, rfl⟩
section
variable {X : Cx} {pins : List (Addr × Obj)} {σ : L2.St} {H : Hp} {s : Shared} {a : Addr} {xs ys : List V} {b : Bool}
theorem inv_G (I : Inv X pins σ H s) (h : SqG b X.K H a xs) : ∃ its : List Value, Vals xs its ∧ HpG b s.heap a its.toArray ∧ a < s.heap.objs.size := by
  cases b with
  | true =>
    obtain ⟨its, rv, p, _⟩ := I.tuple h
    obtain ⟨o, ho, q⟩ := p
    exact ⟨its, rv, ⟨o, ho, q⟩, Heap.lt_size ho⟩
  | false =>
    obtain ⟨its, rv, p, _⟩ := I.list h
    exact ⟨its, rv, p.isList, p.lt⟩
theorem inv_G_inj (I : Inv X pins σ H s) (h : SqG b X.K H a xs) (h' : SqG b X.K H a ys) : xs = ys := by
  cases b with
  | true => exact I.tuple_inj h h'
  | false => exact I.list_inj h h'
end
theorem SqG.mono {b : Bool} {K : PySem.W.Frag} {H H' : Hp} {a : Addr} {xs : List V} (e : Same H H') (h : SqG b K H a xs) : SqG b K H' a xs := by
  cases b with
  | true => exact seqT_mono e h
  | false => exact (match h with
      | .inl (.inl h) => .inl (.inl (e _ _ h))
      | .inl (.inr ⟨o, h⟩) => .inl (.inr ⟨o, e _ _ h⟩)
      | .inr h => .inr h)
/-- pairs of the items at a and b, as these stand at each turn -/
def ItzG (c d : Bool) (K : PySem.W.Frag) (a b : Addr) : It :=
  ⟨fun i H => ∃ (xs ys : List V) (x y : V), (SqG c K H a xs ∧ xs[i]? = some x) ∧ SqG d K H b ys ∧ ys[i]? = some y,
    fun i H v H' => ∃ T x y, v = .ref T ∧ H T = none ∧ H' = upd H T (.tup [x, y]) ∧ (∀ xs, SqG c K H a xs → xs[i]? = some x) ∧ ∀ ys, SqG d K H b ys → ys[i]? = some y,
    fun i H => ∃ xs ys : List V, SqG c K H a xs ∧ SqG d K H b ys ∧ (xs.length ≤ i ∨ ys.length ≤ i)⟩
theorem turn_zipG {c d : Bool} {P : Program} {w : World} {K : PySem.W.Frag} {elts : List Expr} {kk : Nat} {tpos : Pos} {a b Z U O j1 j2 : Addr} (D : ZipApart Z U O j1 j2 a b) :
    Turn P w K (.Tuple elts kk tpos) (ItzG c d K a b) [Z, U, O, j1, j2] Z (fun i h => IsZip h Z U O .none ∧ IsTupOf2 h U (.ref j1) (.ref j2) ∧ (∃ x y, IsTupOf2 h O x y) ∧ ItG c h j1 a i ∧ ItG d h j2 b i) := by
  have sep : ZipSep2 Z U O j1 j2 [j1, a] [j2, b] := by
    refine { TIz := D.TIz, TOz := D.TOz, TITO := D.TITO, TIi1 := D.TIi1, mem1 := by simp, zf1 := ?_, Tf1 := ?_, TIi2 := D.TIi2, mem2 := by simp, zf2 := ?_, Tf2 := ?_, sep1_2 := ?_, sep2_1 := ?_ }
    · simp [D.i1z.symm, D.l1z.symm]
    · simp [D.TOi1, D.l1TO.symm]
    · simp [D.i2z.symm, D.l2z.symm]
    · simp [D.TOi2, D.l2TO.symm]
    · simp [D.i12, D.l2i1.symm]
    · simp [D.i12.symm, D.l1i2.symm]
  have five : ∀ e, e ∈ [Z, U, O, j1, j2] → e = Z ∨ e = U ∨ e = O ∨ e = j1 ∨ e = j2 := fun e he => by simpa using he
  refine ⟨by simp, fun i h st e he => ?_, fun i h h' st k => ?_, ?_, ?_, fun A i s Q E st h => wpAny_pyIter_zip st.1 h⟩
  · obtain ⟨sz, sU, ⟨x, y, sO⟩, t1, t2⟩ := st
    rcases five e he with q | q | q | q | q
    · rw [q]
      exact ⟨_, sz, fun v q => nomatch q⟩
    · rw [q]
      exact ⟨_, sU, fun v q => nomatch q⟩
    · rw [q]
      exact ⟨_, sO, fun v q => nomatch q⟩
    · exact q ▸ t1.obj
    · exact q ▸ t2.obj
  · obtain ⟨sz, sU, ⟨x, y, sO⟩, t1, t2⟩ := st
    exact ⟨k Z (by simp) _ sz, k U (by simp) _ sU, ⟨x, y, k O (by simp) _ sO⟩, t1.carry fun o q => k j1 (by simp) o q, t2.carry fun o q => k j2 (by simp) o q⟩
  · intro X hP hw hK hc i pins s σ H E I hf st hg
    subst hP hw hK
    obtain ⟨sz, sU, ⟨x0, y0, sO⟩, t1, t2⟩ := st
    obtain ⟨xs, ys, x, y, ⟨mx, gx⟩, my, gy⟩ := hg
    obtain ⟨us, rx, px, _⟩ := inv_G I mx
    obtain ⟨vs, ry, py, _⟩ := inv_G I my
    obtain ⟨u, hu, ru⟩ := rx.get gx
    obtain ⟨v, hv, rv⟩ := ry.get gy
    have zl : Z < s.heap.objs.size := Heap.lt_size sz
    have lu : i < us.toArray.size := by
      have := (List.getElem?_eq_some_iff.mp hu).1
      simpa using this
    have lv : i < vs.toArray.size := by
      have := (List.getElem?_eq_some_iff.mp hv).1
      simpa using this
    have hh : X.A.in1.handled = none := I.ok.hd hc
    have D1 := drawG c (prog := X.prog) (w := X.w) hh j1 a D.l1i1 us.toArray
    have D2 := drawG d (prog := X.prog) (w := X.w) hh j2 b D.l2i2 vs.toArray
    refine wpAny_pyNext_zipD2_item sep D1 D2 sz sU sO ⟨t1, px⟩ ⟨t2, py⟩ lu lv fun u' v' h' tk e1 e2 z' O' s1 s2 hT hsz hk => ?_
    have e1' : u' = u := by
      rw [show us.toArray[i]? = us[i]? by simp] at e1
      exact Option.some.inj (e1.symm.trans hu)
    have e2' : v' = v := by
      rw [show vs.toArray[i]? = vs[i]? by simp] at e2
      exact Option.some.inj (e2.symm.trans hv)
    subst e1' e2'
    refine ⟨_, rfl, wpAny_letOwnedTupleGo_zip (s := { s with heap := h', toks := tk }) z' fun g z'' sb => ?_⟩
    have up : ∀ e o, e ≠ Z → h'.get? e = some o → g.get? e = some o := fun e o ne q => (sb.2 e ne).trans q
    have hT2 : g.get? s.heap.objs.size = some { cls := .type "tuple", data := .seq #[u', v'] } := up _ _ (Nat.ne_of_gt zl) hT
    have ok : ObjOk X.prog X.w (upd H s.heap.objs.size (.tup [x, y])) g s.heap.objs.size (.tup [x, y]) := ⟨by show 2 ≤ sizeLine; decide, [u', v'], .cons ru (.cons rv .nil), ⟨_, hT2, rfl, _, rfl⟩⟩
    have I1 : Inv X pins σ (upd H s.heap.objs.size (.tup [x, y])) { s with heap := g, toks := tk } := by
      refine I.turnedNew (t' := tk) (ch := [Z, U, O, j1, j2]) (fun e o hb q => up e o ?_ (hk e o ?_ ?_ ?_ ?_ q)) hf (Nat.le_refl _) ok <;> exact fun q' => hb (by simp [q'])
    refine ⟨.ref s.heap.objs.size, _, I1, rfl, ⟨_, x, y, rfl, I.hok.fresh (Nat.le_refl _), rfl, fun l hl => by rw [inv_G_inj I hl mx]; exact gx, fun l hl => by rw [inv_G_inj I hl my]; exact gy⟩, ⟨z'', up _ _ D.TIz (hk _ _ D.TIz D.TITO D.TIi1 D.TIi2 sU), ⟨u', v', up _ _ D.TOz O'⟩, s1.1.carry fun o q => up _ o D.i1z q, s2.1.carry fun o q => up _ o D.i2z q⟩, fun e he => ?_⟩
    have el : e < s.heap.objs.size := by
      rcases five e he with q | q | q | q | q
      · exact q ▸ zl
      · exact q ▸ Heap.lt_size sU
      · exact q ▸ Heap.lt_size sO
      · obtain ⟨_, e1, _⟩ := t1.obj
        exact q ▸ Heap.lt_size e1
      · obtain ⟨_, e1, _⟩ := t2.obj
        exact q ▸ Heap.lt_size e1
    rw [upd_ne (Nat.ne_of_lt el)]
    exact (hf e he).1
  · intro X hP hw hK hc i pins s σ H E I hf st hg
    subst hP hw hK
    obtain ⟨sz, sU, ⟨x0, y0, sO⟩, t1, t2⟩ := st
    obtain ⟨xs, ys, mx, my, fin⟩ := hg
    obtain ⟨us, rx, px, _⟩ := inv_G I mx
    obtain ⟨vs, ry, py, _⟩ := inv_G I my
    have k1 := rx.length
    have k2 := ry.length
    have hh : X.A.in1.handled = none := I.ok.hd hc
    obtain ⟨m1, P1, S1, D1, s1, l1, f1⟩ := drawAt c (prog := X.prog) (w := X.w) hh j1 a D.l1i1 us.toArray i t1 px
    obtain ⟨m2, P2, S2, D2, s2, l2, f2⟩ := drawAt d (prog := X.prog) (w := X.w) hh j2 b D.l2i2 vs.toArray i t2 py
    have n1 : us.toArray.size = us.length := by simp
    have n2 : vs.toArray.size = vs.length := by simp
    refine wpAny_pyNext_zipD2_end sep D1 D2 sz sU sO s1 s2 l1 l2 (by
      rcases fin with z | z
      · exact .inl (f1 (by omega))
      · exact .inr (f2 (by omega))) fun h' tk hk => ⟨rfl, ?_⟩
    refine I.turnedL (t' := tk) (ch := [Z, U, O, j1, j2]) (fun e o hb q => hk e o ?_ ?_ ?_ ?_ q) hf <;> exact fun q' => hb (by simp [q'])
def iZipG (K : PySem.W.Frag) (ta : TA) : TI := fun σ H R => ta σ H fun vs H1 => ∃ c d a b xs ys, vs = [.ref a, .ref b] ∧ SqG c K H1 a xs ∧ SqG d K H1 b ys ∧ R (ItzG c d K a b) H1
theorem pi_zipG {X : Cx} {e e2 : Expr} {ta : TA} {p pos tpos : Pos} {elts : List Expr} {kk : Nat} (hg : Gl X "zip") (hm : X.mg "zip" = none) (ha : PA X [e, e2] ta)
    (hs : starEach [e, e2] X.env = (false, eval e X.env) :: starEach [e2] X.env) (hpl : (backTo pos (starEach [e2] X.env)).any (·.1) = false) :
    PI X (.Tuple elts kk tpos) (.Call (.Name "zip" p) [e, e2] [] pos) (iZipG X.K ta) := by
  constructor
  intro pins s σ H R I h
  refine Call_ (ld_blt I hg hm PyProof.Rows.boot_zip (PyProof.Rows.callWith_type1 (thn (ha.run pos pins s σ H _ I h) ?_) hs hpl))
  intro us s1 ⟨vs, H1, I1, r1, q1⟩
  obtain ⟨c, d, a, b, xs, ys, ex, mx, my, q⟩ := q1
  subst ex
  cases r1 with
  | cons r rr =>
   cases rr with
   | cons r' rr =>
    cases rr
    cases r
    cases r'
    obtain ⟨its, rv, px, la⟩ := inv_G I1 mx
    obtain ⟨its2, rv2, py, lb⟩ := inv_G I1 my
    refine zip_begins2 (begG c a its.toArray) (begG d b its2.toArray) px py fun h' z1 z2 z3 z4 z5 hsz hk => wpAny_pyIter_zip z1 ?_
    have I2 : Inv X pins σ H1 { s1 with heap := h' } := I1.kept (t' := s1.toks) hk
    refine ⟨s1.heap.objs.size + 4, [s1.heap.objs.size + 4, s1.heap.objs.size + 2, s1.heap.objs.size + 3, s1.heap.objs.size, s1.heap.objs.size + 1], _, _, H1, rfl, I2, turn_zipG (PySem.W.ktu_apart s1.heap.objs.size a b la lb), ⟨z1, z2, ⟨_, _, z3⟩, .new z4, .new z5⟩, fun e he => ?_, q⟩
    have le : s1.heap.objs.size ≤ e := by
      rcases (show e = s1.heap.objs.size + 4 ∨ e = s1.heap.objs.size + 2 ∨ e = s1.heap.objs.size + 3 ∨ e = s1.heap.objs.size ∨ e = s1.heap.objs.size + 1 by simpa using he) with q | q | q | q | q
      · exact q ▸ Nat.le_add_right _ 4
      · exact q ▸ Nat.le_add_right _ 2
      · exact q ▸ Nat.le_add_right _ 3
      · exact q ▸ Nat.le_refl _
      · exact q ▸ Nat.le_add_right _ 1
    exact I1.fpOk le (I1.hok.fresh le)
/-! ### the reading -/
def sqKind : PyData → Option (Bool × List PyData)
  | .list ds => some (false, ds)
  | .tuple ds => some (true, ds)
  | _ => none
theorem Dq.sq {K : PySem.W.Frag} {H : Hp} {v : V} {d : PyData} {b : Bool} {ds : List PyData} (h : Dq K H v d) (e : sqKind d = some (b, ds)) : ∃ a vs, v = .ref a ∧ SqG b K H a vs ∧ Dqs K H vs ds := by
  cases h with
  | lst h r =>
    cases e
    exact ⟨_, _, rfl, SqL.of h, r⟩
  | tup h r =>
    cases e
    exact ⟨_, _, rfl, h, r⟩
  | _ => cases e
theorem wk_zipG {c d : Bool} {K : PySem.W.Frag} {W : Wd} {a b : Addr} {vs us : List V} {ds es : List PyData} (h : SqG c K W.S a vs) (r : Dqs K W.S vs ds) (h2 : SqG d K W.S b us) (r2 : Dqs K W.S us es) : Wk K (ItzG c d K a b) W (zipD ds es) where
  go := fun i x W1 H μ g R e => by
    obtain ⟨d1, d2, e1, e2, rfl⟩ := zip_at e
    obtain ⟨v, a1, _⟩ := r.getD e1
    obtain ⟨u, a2, _⟩ := r2.getD e2
    exact ⟨vs, us, v, u, ⟨(h.mono g).mono R.sub, a1⟩, (h2.mono g).mono R.sub, a2⟩
  yld := fun i x W1 H μ v H' g R e y => by
    obtain ⟨d1, d2, e1, e2, rfl⟩ := zip_at e
    obtain ⟨T, x1, x2, rfl, nT, rfl, f1, f2⟩ := y
    obtain ⟨v, a1, q1⟩ := r.getD e1
    obtain ⟨u, a2, q2⟩ := r2.getD e2
    have z1 := f1 vs ((h.mono g).mono R.sub)
    have z2 := f2 us ((h2.mono g).mono R.sub)
    rw [a1] at z1
    rw [a2] at z2
    cases z1
    cases z2
    exact pair_new R nT (Dq.mono g q1) (Dq.mono g q2)
  stop := fun i W1 H μ g R e => ⟨vs, us, (h.mono g).mono R.sub, (h2.mono g).mono R.sub, by rw [r.len, r2.len]; exact zip_len e⟩
def ziD (d e : PyData) : Option (List PyData) := match sqKind d, sqKind e with
  | some x, some y => some (zipD x.2 y.2)
  | _, _ => none
def zipW (Fa Fb : Rho → M Sv) (ρ : Rho) : M (List PyData) := (Fa ρ).bind fun s => (Fb ρ).bind fun t => match s, t with
  | .dat d, .dat e => orFail (ziD d e)
  | _, _ => M.fail
section
variable {X : Cx} {E : XK} {a b : Expr} {Fa Fb : Rho → M Sv} {pos p tpos : Pos}
theorem i_zipW {elts : List Expr} {kk : Nat} (hg : Gl X "zip") (hm : X.mg "zip" = none) (ha : PX X E a Fa) (hb : PX X E b Fb) (hs : starEach [a, b] X.env = (false, eval a X.env) :: starEach [b] X.env := by rfl) (hs2 : starEach [b] X.env = (false, eval b X.env) :: starEach [] X.env := by rfl) (hpl : (backTo pos (starEach [b] X.env)).any (·.1) = false := by rfl) :
    PIX X E (.Tuple elts kk tpos) (.Call (.Name "zip" p) [a, b] [] pos) (zipW Fa Fb) := pi_weak (pi_zipG hg hm (pa_cons ha (pa_cons hb pa_nil hs2) hs) hs hpl) fun σ H R ⟨W, ρ, μ, r, h, e, q⟩ => by
  refine tX_bind h e q fun v s W1 H1 μ1 g1 h1 rs e1 q1 => tX_bind h1 e1 q1 fun u t W2 H2 μ2 g2 h2 rt e2 q2 => ?_
  have rs' := rs.grow g2
  split at e2
  · rename_i d e
    cases ez : ziD d e with
    | none =>
      rw [ez] at e2
      cases e2
    | some ds =>
    rw [ez] at e2
    cases e2
    unfold ziD at ez
    split at ez
    · rename_i x y hx hy
      obtain ⟨c1, xs⟩ := x
      obtain ⟨c2, ys⟩ := y
      cases ez
      obtain ⟨a1, vs, rfl, m1, r1⟩ := Dq.sq rs' hx
      obtain ⟨a2, us, rfl, m2, r2⟩ := Dq.sq rt hy
      exact ⟨c1, c2, _, _, _, _, rfl, m1.mono h2.rel.sub, m2.mono h2.rel.sub, q2 _ _ (Grow.refl _ _ _) h2.rel _ (wk_zipG m1 r1 m2 r2)⟩
    · cases ez
  · cases e2
end
end Pf

namespace Pf
open PySem PySem.Spec PyProof.Rows L2
/-! ### what is walked -/
section
variable {l l1 l2 : En} {Fa Fb Fc : Rho → M Sv} {ta tb tc : S PyData} {σ τ : Type}
def seqD : PyData → Option (List PyData)
  | .list ds => some ds
  | .tuple ds => some ds
  | _ => none
def rngD : PyData → Option (List PyData)
  | .int i => if big62 i = true then some (fromTo 0 i.toNat) else none
  | _ => none
def toI : PyData → Option Int
  | .int i => some i
  | _ => none
def rngD2 (i : Int) : PyData → Option (List PyData)
  | .int j => if (big62 i && big62 j) = true then some (fromTo i (j - i).toNat) else none
  | _ => none
def enD : PyData → Option (List PyData)
  | .tuple ds => some (enuD ds)
  | _ => none
theorem w_seq (h : Jd l Fa ta (pV l1)) : Jd l (seqV Fa) (ta.bind fun a => S.lift (seqD a)) (pL l1) := fun k rest ρ μ e => by
  refine (h k rest ρ μ e).bind fun k1 μ1 a da ⟨z, e1⟩ => ?_
  subst z
  refine Jl.lift fun ds q => ?_
  cases da <;> cases q <;> exact ⟨_, μ1, rfl, rfl, e1⟩
theorem w_rng (h : Jd l Fa ta (pV l1)) : Jd l (rngV Fa) (ta.bind fun a => S.lift (rngD a)) (pL l1) := fun k rest ρ μ e => by
  refine (h k rest ρ μ e).bind fun k1 μ1 a da ⟨z, e1⟩ => ?_
  subst z
  refine Jl.lift fun ds q => ?_
  cases da with
  | int i =>
    dsimp only [rngD] at q
    by_cases hb : big62 i = true
    · rw [if_pos hb] at q
      cases q
      refine ⟨_, μ1, ?_, rfl, e1⟩
      show M.bind (M.ret i) _ μ1 = _
      rw [bind_ok (show M.ret i μ1 = some (.ok i μ1) from rfl), if_pos hb]
      rfl
    · rw [if_neg hb] at q
      cases q
  | _ => cases q
theorem w_rng2 (ha : Jd l Fa ta (pV l1)) (hb : Jd l1 Fb tb (pV l2)) : Jd l (rngV2 Fa Fb) (ta.bind fun a => (S.lift (toI a)).bind fun i => tb.bind fun b => S.lift (rngD2 i b)) (pL l2) := fun k rest ρ μ e => by
  refine (ha k rest ρ μ e).bind fun k1 μ1 a da ⟨z, e1⟩ => ?_
  subst z
  refine Jl.pre fun i q => ?_
  cases da <;> cases q
  refine Jl.eqM (m := (Fb ρ).bind fun t => (asI t).bind fun j => if (big62 i && big62 j) = true then M.ret (fromTo i (j - i).toNat) else M.fail) ((hb k1 rest ρ μ1 e1).bind fun k2 μ2 b db ⟨z, e2⟩ => ?_) rfl
  subst z
  refine Jl.lift fun ds q => ?_
  cases db with
  | int j =>
    dsimp only [rngD2] at q
    by_cases hb : (big62 i && big62 j) = true
    · rw [if_pos hb] at q
      cases q
      refine ⟨_, μ2, ?_, rfl, e2⟩
      show M.bind (M.ret j) _ μ2 = _
      rw [bind_ok (show M.ret j μ2 = some (.ok j μ2) from rfl), if_pos hb]
      rfl
    · rw [if_neg hb] at q
      cases q
  | _ => cases q
theorem w_enu (h : Jd l Fa ta (pV l1)) : Jd l (enuV Fa) (ta.bind fun a => S.lift (enD a)) (pL l1) := fun k rest ρ μ e => by
  refine (h k rest ρ μ e).bind fun k1 μ1 a da ⟨z, e1⟩ => ?_
  subst z
  refine Jl.lift fun ds q => ?_
  cases da <;> cases q
  exact ⟨_, μ1, rfl, rfl, e1⟩
theorem w_zip (ha : Jd l Fa ta (pV l1)) (hb : Jd l1 Fb tb (pV l2)) : Jd l (zipW Fa Fb) (ta.bind fun a => tb.bind fun b => S.lift (ziD a b)) (pL l2) := fun k rest ρ μ e => by
  refine (ha k rest ρ μ e).bind fun k1 μ1 a da ⟨z, e1⟩ => ?_
  subst z
  refine (hb k1 rest ρ μ1 e1).bind fun k2 μ2 b db ⟨z, e2⟩ => ?_
  subst z
  refine Jl.lift fun ds q => ?_
  refine ⟨_, μ2, ?_, rfl, e2⟩
  show orFail (ziD da db) μ2 = _
  rw [q]
  rfl
/-! ### comprehensions -/
def wipeE (l : En) : List Nat → En
  | [] => l
  | v :: vs => (wipeE l vs).set v none
theorem EnvR.wipe1 {k : Dk} {rest : Mu} {ρ : Rho} {μ : Mu} (h : EnvR l k rest ρ μ) (i : Nat) : EnvR (l.set i none) k rest (ρ.set i none) μ := by
  have sub : ∀ (j : Nat) (x : Sk), (l.set i none)[j]? = some (some x) → j ≠ i ∧ l[j]? = some (some x) := fun j x e => by
    rcases getE_set e with ⟨_, z, _⟩ | ⟨hj, e⟩
    · cases z
    · exact ⟨hj, e⟩
  refine ⟨h.pre, by rw [List.length_set, List.length_set, h.len], fun j x e => ?_, fun a b xs ys t e1 e2 e3 e4 => ?_⟩
  · obtain ⟨hj, e⟩ := sub j x e
    obtain ⟨s, e1, e2⟩ := h.at_ j x e
    exact ⟨s, by rw [List.getElem?_set_ne fun z => hj z.symm]; exact e1, e2⟩
  · obtain ⟨ha, e1⟩ := sub _ _ e1
    obtain ⟨hb, e2⟩ := sub _ _ e2
    rw [List.getElem?_set_ne fun z => ha z.symm] at e3
    rw [List.getElem?_set_ne fun z => hb z.symm] at e4
    exact h.inj a b xs ys t e1 e2 e3 e4
theorem EnvR.unwipe1 {k : Dk} {rest : Mu} {ρ : Rho} {μ : Mu} {i : Nat} (hl : ρ.length = l.length) (h : EnvR (l.set i none) k rest (ρ.set i none) μ) : EnvR (l.set i none) k rest ρ μ := by
  have sub : ∀ (j : Nat) (x : Sk), (l.set i none)[j]? = some (some x) → j ≠ i := fun j x e => by
    rcases getE_set e with ⟨_, z, _⟩ | ⟨hj, e⟩
    · cases z
    · exact hj
  refine ⟨h.pre, by rw [List.length_set, hl], fun j x e => ?_, fun a b xs ys t e1 e2 e3 e4 => ?_⟩
  · have hj := sub j x e
    obtain ⟨s, e1, e2⟩ := h.at_ j x e
    rw [List.getElem?_set_ne fun z => hj z.symm] at e1
    exact ⟨s, e1, e2⟩
  · have ha := sub _ _ e1
    have hb := sub _ _ e2
    exact h.inj a b xs ys t e1 e2 (by rw [List.getElem?_set_ne fun z => ha z.symm]; exact e3) (by rw [List.getElem?_set_ne fun z => hb z.symm]; exact e4)
theorem EnvR.wipe {k : Dk} {rest : Mu} {ρ : Rho} {μ : Mu} (h : EnvR l k rest ρ μ) : ∀ vs : List Nat, EnvR (wipeE l vs) k rest (wipeR ρ vs) μ
  | [] => h
  | v :: vs => (h.wipe vs).wipe1 v
theorem wipeR_len (ρ : Rho) : ∀ vs : List Nat, (wipeR ρ vs).length = ρ.length
  | [] => rfl
  | v :: vs => by
    show ((wipeR ρ vs).set v none).length = _
    rw [List.length_set, wipeR_len ρ vs]
theorem wipeR_get {ρ : Rho} {j : Nat} : ∀ {vs : List Nat}, j ∉ vs → (wipeR ρ vs)[j]? = ρ[j]?
  | [], _ => rfl
  | v :: vs, h => by
    show ((wipeR ρ vs).set v none)[j]? = _
    rw [List.getElem?_set_ne (fun z : v = j => h (z ▸ List.mem_cons_self)), wipeR_get fun z => h (List.mem_cons_of_mem _ z)]
theorem wipeE_get {j : Nat} {x : Sk} : ∀ {vs : List Nat}, (wipeE l vs)[j]? = some (some x) → j ∉ vs
  | [], _ => List.not_mem_nil
  | v :: vs, h => fun m => by
    rcases getE_set (show ((wipeE l vs).set v none)[j]? = _ from h) with ⟨_, z, _⟩ | ⟨hj, e⟩
    · cases z
    · rcases List.mem_cons.mp m with m | m
      · exact hj m
      · exact wipeE_get e m
theorem EnvR.unwipe {k : Dk} {rest : Mu} {ρ : Rho} {μ : Mu} {vs : List Nat} (hw : wipeE l vs = l) (h : EnvR l k rest (wipeR ρ vs) μ) : EnvR l k rest ρ μ := by
  have out : ∀ (j : Nat) (x : Sk), l[j]? = some (some x) → (wipeR ρ vs)[j]? = ρ[j]? := fun j x e => wipeR_get (wipeE_get (l := l) (by rw [hw]; exact e))
  refine ⟨h.pre, by rw [← h.len, wipeR_len], fun j x e => ?_, fun a b xs ys t e1 e2 e3 e4 => ?_⟩
  · obtain ⟨s, e1, e2⟩ := h.at_ j x e
    rw [out j x e] at e1
    exact ⟨s, e1, e2⟩
  · exact h.inj a b xs ys t e1 e2 (by rw [out a _ e1]; exact e3) (by rw [out b _ e2]; exact e4)
def szD (ds : List PyData) : Option PUnit := if szOk ds.length = true then some ⟨⟩ else none
theorem noex_ok {α : Type} {m : M α} {μ μ' : Mu} {a : α} (h : m μ = some (.ok a μ')) : noEx m μ = some (.ok a μ') := by
  unfold noEx
  rw [h]
def lcE (l : En) (Fe : Rho → M Sv) (k' : Dk) (rest : Mu) (ρ ρ1 : Rho) (μ2 : Mu) (b : Bool) : Option PyData → Prop
  | some x => b = true ∧ ∃ μ3, Fe ρ1 μ2 = some (.ok (.dat x) μ3) ∧ EnvR l k' rest ρ μ3
  | none => b = false ∧ EnvR l k' rest ρ μ2
theorem lc_run {T : Sv → Rho → M Rho} {C : Rho → M Bool} {Fe : Rho → M Sv} {rest : Mu} {item : PyData → S (Option PyData)} {ρ : Rho}
    (h : ∀ d k μ, EnvR l k rest ρ μ → ∀ o k', item d k = some (.ok o, k') → ∃ ρ1 μ1 b μ2, T (.dat d) ρ μ = some (.ok ρ1 μ1) ∧ C ρ1 μ1 = some (.ok b μ2) ∧ lcE l Fe k' rest ρ ρ1 μ2 b o) : ∀ (ds : List PyData) (k : Dk) (μ : Mu), EnvR l k rest ρ μ → ∀ r k', S.mapF (fun d => S.noEx (item d)) ds k = some (r, k') → ∃ xs μ', r = .ok xs ∧ lcL T C Fe ds ρ μ = some (.ok (xs.map Sv.dat) μ') ∧ EnvR l k' rest ρ μ'
  | [], k, μ, e, r, k', q => by
    cases q
    exact ⟨[], μ, rfl, rfl, e⟩
  | d :: ds, k, μ, e, r, k', q => by
    unfold S.mapF at q
    rcases S.bind_inv q with ⟨o, k1, q1, q2⟩ | ⟨c, q1, rfl⟩
    · have q1' : item d k = some (.ok o, k1) := by
        unfold S.noEx at q1
        split at q1
        · rename_i z
          cases q1
          exact z
        · cases q1
      obtain ⟨ρ1, μ1, b, μ2, w1, w2, w3⟩ := h d k μ e o k1 q1'
      cases o with
      | some x =>
        obtain ⟨rfl, μ3, w3, e3⟩ := w3
        rcases S.bind_inv q2 with ⟨bs, k2, q3, q4⟩ | ⟨c, q3, rfl⟩
        · obtain ⟨xs, μ4, z, w4, e4⟩ := lc_run h ds k1 μ3 e3 _ _ q3
          cases z
          cases q4
          refine ⟨x :: bs, μ4, rfl, ?_, e4⟩
          unfold lcL
          rw [bind_ok (noex_ok w1), bind_ok (noex_ok w2), if_pos rfl, bind_ok (noex_ok w3), bind_ok w4]
          rfl
        · obtain ⟨xs, μ4, z, w4, e4⟩ := lc_run h ds k1 μ3 e3 _ _ q3
          cases z
      | none =>
        obtain ⟨rfl, e3⟩ := w3
        rcases S.bind_inv q2 with ⟨bs, k2, q3, q4⟩ | ⟨c, q3, rfl⟩
        · obtain ⟨xs, μ4, z, w4, e4⟩ := lc_run h ds k1 μ2 e3 _ _ q3
          cases z
          cases q4
          refine ⟨bs, μ4, rfl, ?_, e4⟩
          unfold lcL
          rw [bind_ok (noex_ok w1), bind_ok (noex_ok w2), if_neg Bool.false_ne_true, w4]
        · obtain ⟨xs, μ4, z, w4, e4⟩ := lc_run h ds k1 μ2 e3 _ _ q3
          cases z
    · exfalso
      unfold S.noEx at q1
      split at q1
      · cases q1
      · cases q1
theorem mapF_some {α β : Type} (f : α → S β) : ∀ xs : List α, S.mapF (fun d => S.noEx ((f d).bind fun x => S.ret (some x))) xs = S.mapM (fun d => S.noEx (f d)) xs
  | [] => rfl
  | x :: xs => by
    unfold S.mapF S.mapM
    rw [mapF_some f xs]
    have : S.noEx ((f x).bind fun x => S.ret (some x)) = (S.noEx (f x)).bind fun x => S.ret (some x) := by
      funext k
      unfold S.noEx S.bind S.ret
      dsimp only
      generalize f x k = z
      rcases z with _ | ⟨_ | _, k'⟩ <;> rfl
    rw [this, S.bind_assoc]
    rfl
section
variable {Fi : Rho → M (List PyData)} {tw : S (List PyData)} {T : Sv → Rho → M Rho} {u : PyData → S σ} {e' : σ → En} {C : Rho → M Bool} {tC : σ → S Bool} {Fe : Rho → M Sv} {te : σ → S PyData}
theorem lc_item (hT : ∀ d, Jd l (T (.dat d)) (u d) (pTc l e')) (hC : ∀ s, Jd (e' s) C (tC s) (pB (e' s))) (he : ∀ s, Jd (e' s) Fe (te s) (pV (e' s))) {rest : Mu} {ρ : Rho} (d : PyData) (k : Dk) (μ : Mu) (e : EnvR l k rest ρ μ) (o : Option PyData) (k' : Dk)
    (q : ((u d).bind fun s => (tC s).bind fun z => if z = true then (te s).bind fun x => S.ret (some x) else S.ret none) k = some (.ok o, k')) : ∃ ρ1 μ1 b μ2, T (.dat d) ρ μ = some (.ok ρ1 μ1) ∧ C ρ1 μ1 = some (.ok b μ2) ∧ lcE l Fe k' rest ρ ρ1 μ2 b o := by
  rcases S.bind_inv q with ⟨s, k1, q1, q2⟩ | ⟨c, q1, z⟩
  · obtain ⟨ρ1, μ1, w1, e1, back⟩ := hT d k rest ρ μ e _ _ q1
    rcases S.bind_inv q2 with ⟨b, k2, q3, q4⟩ | ⟨c, q1, z⟩
    · obtain ⟨b', μ2, w2, rfl, e2⟩ := hC s k1 rest ρ1 μ1 e1 _ _ q3
      refine ⟨ρ1, μ1, b', μ2, w1, w2, ?_⟩
      cases b' with
      | true =>
        rw [if_pos rfl] at q4
        rcases S.bind_inv q4 with ⟨x, k3, q5, q6⟩ | ⟨c, q5, z⟩
        · cases q6
          obtain ⟨v, μ3, w3, rfl, e3⟩ := he s k2 rest ρ1 μ2 e2 _ _ q5
          exact ⟨rfl, μ3, w3, back _ _ e3⟩
        · cases z
      | false =>
        rw [if_neg Bool.false_ne_true] at q4
        cases q4
        exact ⟨rfl, back _ _ e2⟩
    · cases z
  · cases z
theorem lc_core {m : Bool} {vs : List Nat} {item : PyData → S (Option PyData)} (hi : Jd l Fi tw (pL l1)) (hw : wipeE l1 vs = l1)
    (h : ∀ rest ρ d k μ, EnvR l1 k rest ρ μ → ∀ o k', item d k = some (.ok o, k') → ∃ ρ1 μ1 b μ2, T (.dat d) ρ μ = some (.ok ρ1 μ1) ∧ C ρ1 μ1 = some (.ok b μ2) ∧ lcE l1 Fe k' rest ρ ρ1 μ2 b o) {β : Type} (out : List PyData → β) (P : Post Sv β) (fin : ∀ k rest ρ μ xs, EnvR l1 k rest ρ μ → ∃ a μ', mkl m (xs.map Sv.dat) μ = some (.ok a μ') ∧ P k rest ρ μ' a (out xs)) :
    Jd l (lcV m vs Fi T C Fe) (tw.bind fun ds => (S.lift (szD ds)).bind fun _ => (S.mapF (fun d => S.noEx (item d)) ds).bind fun xs => S.ret (out xs)) P := fun k rest ρ μ e => by
  refine (hi k rest ρ μ e).bind fun k1 μ1 a ds ⟨z, e1⟩ => ?_
  subst z
  refine Jl.pre fun _ q => ?_
  have hsz : szOk a.length = true := by
    unfold szD at q
    split at q
    · assumption
    · cases q
  rw [if_pos hsz]
  have e2 : EnvR l1 k1 rest (wipeR ρ vs) μ1 := by
    have := e1.wipe vs
    rwa [hw] at this
  intro r k' q
  rcases S.bind_inv q with ⟨xs, k2, q1, q2⟩ | ⟨c, q1, z⟩
  · obtain ⟨xs', μ2, z, w, e3⟩ := lc_run (T := T) (C := C) (Fe := Fe) (fun d k μ e => h rest _ d k μ e) a k1 μ1 e2 _ _ q1
    cases z
    cases q2
    obtain ⟨a, μ', w2, p⟩ := fin _ rest ρ μ2 xs (e3.unwipe hw)
    exact ⟨a, μ', by rw [bind_ok w]; exact w2, p⟩
  · obtain ⟨xs', μ2, z, w, e3⟩ := lc_run (T := T) (C := C) (Fe := Fe) (fun d k μ e => h rest _ d k μ e) a k1 μ1 e2 _ _ q1
    cases z
theorem fin_V {k : Dk} {rest : Mu} {ρ : Rho} {μ : Mu} (xs : List PyData) (e : EnvR l1 k rest ρ μ) : ∃ a μ', mkl false (xs.map Sv.dat) μ = some (.ok a μ') ∧ pV l1 k rest ρ μ' a (.list xs) := ⟨_, μ, mkl_dat xs μ, rfl, e⟩
theorem fin_M {k : Dk} {rest : Mu} {ρ : Rho} {μ : Mu} (xs : List PyData) (e : EnvR l1 k rest ρ μ) : ∃ a μ', mkl true (xs.map Sv.dat) μ = some (.ok a μ') ∧ pM l1 k rest ρ μ' a xs := ⟨_, _, rfl, μ, rfl, rfl, e⟩
theorem yes_j {le : En} : Jd le yes (S.ret true) (pB le) := fun k rest ρ μ e => Jl.ret ⟨rfl, e⟩
theorem e_lc (vs : List Nat) (hi : Jd l Fi tw (pL l1)) (hw : wipeE l1 vs = l1) (hT : ∀ d, Jd l1 (T (.dat d)) (u d) (pTc l1 e')) (he : ∀ s, Jd (e' s) Fe (te s) (pV (e' s))) :
    Jd l (lcV false vs Fi T yes Fe) (tw.bind fun ds => (S.lift (szD ds)).bind fun _ => (S.mapM (fun d => S.noEx ((u d).bind te)) ds).bind fun xs => S.ret (.list xs)) (pV l1) := by
  have := lc_core (m := false) (T := T) (C := yes) (Fe := Fe) hi hw (fun rest ρ d k μ e => lc_item hT (fun s => yes_j) he d k μ e) PyData.list (pV l1) fun k rest ρ μ xs e => fin_V xs e
  refine (congrArg (fun t => Jd l (lcV false vs Fi T yes Fe) t (pV l1)) ?_).mp this
  congr 1
  funext ds
  congr 1
  funext _
  congr 1
  rw [← mapF_some]
  congr 1
  funext d
  rw [S.bind_assoc]
  rfl
theorem e_lcF (vs : List Nat) (hi : Jd l Fi tw (pL l1)) (hw : wipeE l1 vs = l1) (hT : ∀ d, Jd l1 (T (.dat d)) (u d) (pTc l1 e')) (hC : ∀ s, Jd (e' s) C (tC s) (pB (e' s))) (he : ∀ s, Jd (e' s) Fe (te s) (pV (e' s))) :
    Jd l (lcV false vs Fi T C Fe) (tw.bind fun ds => (S.lift (szD ds)).bind fun _ => (S.mapF (fun d => S.noEx ((u d).bind fun s => (tC s).bind fun z => if z = true then (te s).bind fun x => S.ret (some x) else S.ret none)) ds).bind fun xs => S.ret (.list xs)) (pV l1) :=
  lc_core (m := false) (T := T) (C := C) (Fe := Fe) hi hw (fun rest ρ d k μ e => lc_item hT hC he d k μ e) PyData.list (pV l1) fun k rest ρ μ xs e => fin_V xs e
theorem m_lc (vs : List Nat) (hi : Jd l Fi tw (pL l1)) (hw : wipeE l1 vs = l1) (hT : ∀ d, Jd l1 (T (.dat d)) (u d) (pTc l1 e')) (he : ∀ s, Jd (e' s) Fe (te s) (pV (e' s))) :
    Jd l (lcV true vs Fi T yes Fe) (tw.bind fun ds => (S.lift (szD ds)).bind fun _ => (S.mapM (fun d => S.noEx ((u d).bind te)) ds).bind fun xs => S.ret xs) (pM l1) := by
  have := lc_core (m := true) (T := T) (C := yes) (Fe := Fe) hi hw (fun rest ρ d k μ e => lc_item hT (fun s => yes_j) he d k μ e) id (pM l1) fun k rest ρ μ xs e => fin_M xs e
  refine (congrArg (fun t => Jd l (lcV true vs Fi T yes Fe) t (pM l1)) ?_).mp this
  congr 1
  funext ds
  congr 1
  funext _
  congr 1
  rw [← mapF_some]
  congr 1
  funext d
  rw [S.bind_assoc]
  rfl
theorem m_lcF (vs : List Nat) (hi : Jd l Fi tw (pL l1)) (hw : wipeE l1 vs = l1) (hT : ∀ d, Jd l1 (T (.dat d)) (u d) (pTc l1 e')) (hC : ∀ s, Jd (e' s) C (tC s) (pB (e' s))) (he : ∀ s, Jd (e' s) Fe (te s) (pV (e' s))) :
    Jd l (lcV true vs Fi T C Fe) (tw.bind fun ds => (S.lift (szD ds)).bind fun _ => (S.mapF (fun d => S.noEx ((u d).bind fun s => (tC s).bind fun z => if z = true then (te s).bind fun x => S.ret (some x) else S.ret none)) ds).bind fun xs => S.ret xs) (pM l1) :=
  lc_core (m := true) (T := T) (C := C) (Fe := Fe) hi hw (fun rest ρ d k μ e => lc_item hT hC he d k μ e) id (pM l1) fun k rest ρ μ xs e => fin_M xs e
/-! ### for -/
variable {B : Rho → M Out} {h : σ → En}
theorem for_run {tb : σ → PyData → S σ} {rest : Mu} {ρ0 : Rho} (hb : ∀ s d, Jd (h s) (fun ρ => (T (.dat d) ρ).bind B) (tb s d) (pN h)) : ∀ (ds : List PyData) (s : σ) (k : Dk) (ρ : Rho) (μ : Mu), EnvR (h s) k rest ρ μ → Jl k rest ρ0 μ (loopG T B ds ρ) (S.foldM tb ds s) (pN h)
  | [], s, k, ρ, μ, e => Jl.ret ⟨ρ, rfl, e⟩
  | d :: ds, s, k, ρ, μ, e => by
    refine Jl.eqM (m := ((T (.dat d) ρ).bind B).bind fun o => match o with | .nx ρ2 => loopG T B ds ρ2 | .ct ρ2 => loopG T B ds ρ2 | .bk ρ2 => M.ret (.nx ρ2) | .rt s => M.ret (.rt s)) ?_ ?_
    · have := hb s d k rest ρ μ e
      refine Jl.bind (P := fun k rest _ μ a s => ∃ ρ', a = .nx ρ' ∧ EnvR (h s) k rest ρ' μ) (fun r k' q => this r k' q) fun k1 μ1 a s1 ⟨ρ1, z, e1⟩ => ?_
      subst z
      exact for_run hb ds s1 k1 ρ1 μ1 e1
    · exact (M.assoc _ _ _).symm
theorem s_for' {tb : σ → PyData → S σ} (s0 : σ) (hi : Jd l Fi tw (pL l1)) (w : Wkn l1 (h s0)) (hb : ∀ s d, Jd (h s) (fun ρ => (T (.dat d) ρ).bind B) (tb s d) (pN h)) : Jd l (gFor Fi T B) (tw.bind fun ds => S.foldM tb ds s0) (pN h) := fun k rest ρ μ e => by
  refine (hi k rest ρ μ e).bind fun k1 μ1 a ds ⟨z, e1⟩ => ?_
  subst z
  exact for_run hb a s0 k1 ρ μ1 (e1.weak w)
def S.foldF (f : σ → PyData → S (Fl σ)) : List PyData → σ → S (Fl σ)
  | [], s => S.ret (.nx s)
  | d :: ds, s => (f s d).bind fun o => match o with
    | .nx s' => S.foldF f ds s'
    | .ct s' => S.foldF f ds s'
    | .bk s' => S.ret (.nx s')
    | .rt d => S.ret (.rt d)
theorem forF_run {tb : σ → PyData → S (Fl σ)} {rest : Mu} {ρ0 : Rho} (hb : ∀ s d, Jd (h s) (fun ρ => (T (.dat d) ρ).bind B) (tb s d) (pS true h)) : ∀ (ds : List PyData) (s : σ) (k : Dk) (ρ : Rho) (μ : Mu), EnvR (h s) k rest ρ μ → Jl k rest ρ0 μ (loopG T B ds ρ) (S.foldF tb ds s) (pS true h)
  | [], s, k, ρ, μ, e => Jl.ret ⟨rfl, e⟩
  | d :: ds, s, k, ρ, μ, e => by
    refine Jl.eqM (m := ((T (.dat d) ρ).bind B).bind fun o => match o with | .nx ρ2 => loopG T B ds ρ2 | .ct ρ2 => loopG T B ds ρ2 | .bk ρ2 => M.ret (.nx ρ2) | .rt s => M.ret (.rt s)) ?_ ?_
    · have := hb s d k rest ρ μ e
      refine Jl.bind (P := pS true h) (fun r k' q => this r k' q) fun k1 μ1 a s1 p => ?_
      unfold pS at p
      split at p
      · exact forF_run hb ds _ k1 _ μ1 p.2
      · exact Jl.ret p
      · exact Jl.ret ⟨rfl, p⟩
      · exact forF_run hb ds _ k1 _ μ1 p
      · exact p.elim
    · exact (M.assoc _ _ _).symm
theorem s_forF {tb : σ → PyData → S (Fl σ)} (s0 : σ) (hi : Jd l Fi tw (pL l1)) (w : Wkn l1 (h s0)) (hb : ∀ s d, Jd (h s) (fun ρ => (T (.dat d) ρ).bind B) (tb s d) (pS true h)) : Jd l (gFor Fi T B) (tw.bind fun ds => S.foldF tb ds s0) (pS true h) := fun k rest ρ μ e => by
  refine (hi k rest ρ μ e).bind fun k1 μ1 a ds ⟨z, e1⟩ => ?_
  subst z
  exact forF_run hb a s0 k1 ρ μ1 (e1.weak w)
/-- the target and the body -/
theorem b_tg {β : Type} {P : Dk → Mu → Mu → Out → β → Prop} {tb : σ → S β} (d : PyData) (hT : Jd l (T (.dat d)) (u d) (pT e')) (hb : ∀ s, Jd (e' s) B (tb s) fun k rest _ μ a b => P k rest μ a b) : Jd l (fun ρ => (T (.dat d) ρ).bind B) ((u d).bind tb) fun k rest _ μ a b => P k rest μ a b := fun k rest ρ μ e => by
  refine (hT k rest ρ μ e).bind fun k1 μ1 a s e1 => ?_
  exact hb s k1 rest a μ1 e1
/-! ### while -/
def S.itW (c : σ → S Bool) (f : σ → S σ) : Nat → σ → S σ
  | 0, _ => S.fail
  | n + 1, s => (c s).bind fun z => if z = true then (f s).bind fun s' => S.itW c f n s' else S.ret s
theorem while_run {F : Rho → M Bool} {c : σ → S Bool} {f : σ → S σ} {rest : Mu} {ρ0 : Rho} (hc : ∀ s, Jd (h s) F (c s) (pB (h s))) (hb : ∀ s, Jd (h s) B (f s) (pN h)) : ∀ (n : Nat) (s : σ) (k : Dk) (ρ : Rho) (μ : Mu), EnvR (h s) k rest ρ μ → Jl k rest ρ0 μ (loopW F B n ρ) (S.itW c f n s) (pN h)
  | 0, s, k, ρ, μ, e => fun r k' z => nomatch z
  | n + 1, s, k, ρ, μ, e => by
    have h1 := hc s k rest ρ μ e
    refine Jl.bind (P := fun k rest _ μ a b => a = b ∧ EnvR (h s) k rest ρ μ) (fun r k' q => h1 r k' q) fun k1 μ1 a b ⟨z, e1⟩ => ?_
    subst z
    refine Jl.ite ?_ (Jl.ret ⟨ρ, rfl, e1⟩)
    have h2 := hb s k1 rest ρ μ1 e1
    refine Jl.bind (P := fun k rest _ μ a s => ∃ ρ', a = .nx ρ' ∧ EnvR (h s) k rest ρ' μ) (fun r k' q => h2 r k' q) fun k2 μ2 a s2 ⟨ρ2, z, e2⟩ => ?_
    subst z
    exact while_run hc hb n s2 k2 ρ2 μ2 e2
theorem s_whl {F : Rho → M Bool} {c : σ → S Bool} {f : σ → S σ} (n : Nat) (s0 : σ) (w : Wkn l (h s0)) (hc : ∀ s, Jd (h s) F (c s) (pB (h s))) (hb : ∀ s, Jd (h s) B (f s) (pN h)) : Jd l (loopW F B n) (S.itW c f n s0) (pN h) := fun k rest ρ μ e => while_run hc hb n s0 k ρ μ (e.weak w)
end
end
end Pf

namespace Pf
open PySem PySem.Spec PyProof.Rows L2
/-! ### own functions -/
def intsOf : List Sv → Option (List Int)
  | [] => some []
  | .dat (.int i) :: r => (intsOf r).map (i :: ·)
  | _ => none
theorem intsOf_map : ∀ cs : List Int, intsOf (cs.map svI) = some cs
  | [] => rfl
  | c :: cs => by
    show (intsOf (cs.map svI)).map (c :: ·) = _
    rw [intsOf_map cs]
    rfl
theorem intsOf_eq : ∀ {xs : List Sv} {cs : List Int}, intsOf xs = some cs → xs = cs.map svI
  | [], _, h => by
    cases h
    rfl
  | .dat (.int i) :: r, cs, h => by
    have h' : (intsOf r).map (i :: ·) = some cs := h
    cases q : intsOf r with
    | none =>
      rw [q] at h'
      cases h'
    | some z =>
      rw [q] at h'
      cases h'
      rw [intsOf_eq q]
      rfl
  | .dat .none :: _, _, h => nomatch h
  | .dat (.bool _) :: _, _, h => nomatch h
  | .dat (.str _) :: _, _, h => nomatch h
  | .dat (.list _) :: _, _, h => nomatch h
  | .dat (.tuple _) :: _, _, h => nomatch h
  | .dat (.dict _) :: _, _, h => nomatch h
  | .ref _ :: _, _, h => nomatch h
  | .scr _ :: _, _, h => nomatch h
def parse : Mu → Option (Dk × Mu)
  | .lst xs :: .lst [.ref 0, .dat (.int n)] :: rest => (intsOf xs).map fun cs => (⟨cs, n, none⟩, rest)
  | .lst xs :: .lst [.dat (.list ds), .dat (.int n), .ref 0] :: rest => (intsOf xs).bind fun cs => (asInts ds).map fun c => (⟨cs, n, some c⟩, rest)
  | _ => none
theorem parse_dk (k : Dk) (rest : Mu) : parse (dkO k ++ rest) = some (k, rest) := by
  obtain ⟨cs, n, ce⟩ := k
  cases ce with
  | none =>
    show (intsOf (cs.map svI)).map _ = _
    rw [intsOf_map]
    rfl
  | some c =>
    show (intsOf (cs.map svI)).bind (fun cs => (asInts (c.map .int)).map _) = _
    rw [intsOf_map, ints_map]
    rfl
theorem parse_eq {μ rest : Mu} {k : Dk} (h : parse μ = some (k, rest)) : μ = dkO k ++ rest := by
  unfold parse at h
  split at h
  · rename_i xs n rest'
    cases q : intsOf xs with
    | none =>
      rw [q] at h
      cases h
    | some z =>
      rw [q] at h
      cases h
      rw [intsOf_eq q]
      rfl
  · rename_i xs ds n rest'
    cases q : intsOf xs with
    | none =>
      rw [q] at h
      cases h
    | some z =>
      cases q2 : asInts ds with
      | none =>
        rw [q, q2] at h
        cases h
      | some y =>
        rw [q, q2] at h
        cases h
        rw [intsOf_eq q, asInts_eq q2]
        rfl
  · cases h
def upR (k : Dk) (rest : Mu) : Rs PyData → Res Sv
  | .ok d => .ok (.dat d) (dkO k ++ rest)
  | .ex c => .ex c.up (dkO k ++ rest)
def liftF (T : List PyData → S PyData) (ss : List Sv) : M Sv := fun μ => match parse μ, dats ss with
  | some (k, rest), some ds => match T ds k with
    | some (r, k') => some (upR k' rest r)
    | none => none
  | _, _ => none
def liftD (T : List PyData → S PyData) (ss : List Sv) : M Sv := match ss with
  | .ref 1 :: r => liftF T r
  | _ => M.fail
def u0 (T : S PyData) : List PyData → S PyData
  | [] => T
  | _ => S.fail
def u1 (T : PyData → S PyData) : List PyData → S PyData
  | [a] => T a
  | _ => S.fail
def u2 (T : PyData → PyData → S PyData) : List PyData → S PyData
  | [a, b] => T a b
  | _ => S.fail
def u3 (T : PyData → PyData → PyData → S PyData) : List PyData → S PyData
  | [a, b, c] => T a b c
  | _ => S.fail
def u4 (T : PyData → PyData → PyData → PyData → S PyData) : List PyData → S PyData
  | [a, b, c, d] => T a b c d
  | _ => S.fail
def u5 (T : PyData → PyData → PyData → PyData → PyData → S PyData) : List PyData → S PyData
  | [a, b, c, d, e] => T a b c d e
  | _ => S.fail
def u6 (T : PyData → PyData → PyData → PyData → PyData → PyData → S PyData) : List PyData → S PyData
  | [a, b, c, d, e, f] => T a b c d e f
  | _ => S.fail
section
variable {l l1 l2 l3 l4 : En} {Fa Fb Fc Fd : Rho → M Sv} {ta tb tc td : S PyData}
theorem EnvR.deck {k k' : Dk} {rest g : Mu} {ρ : Rho} (h : EnvR l k rest ρ (dkO k ++ rest ++ g)) : EnvR l k' rest ρ (dkO k' ++ rest ++ g) := by
  refine ⟨⟨g, rfl⟩, h.len, fun i x e => ?_, h.inj⟩
  obtain ⟨s, e1, e2⟩ := h.at_ i x e
  refine ⟨s, e1, ?_⟩
  cases x with
  | im d => exact e2
  | dk => exact e2
  | mt ds =>
    obtain ⟨t, a, b, c⟩ := e2
    refine ⟨t, a, b, ?_⟩
    have hb : (dkO k ++ rest).length ≤ t := by rw [List.length_append]; exact b
    have hb' : (dkO k' ++ rest).length ≤ t := by rw [List.length_append]; exact b
    rw [List.getElem?_append_right hb] at c
    rw [List.getElem?_append_right hb']
    have : (dkO k' ++ rest).length = (dkO k ++ rest).length := by rw [List.length_append, List.length_append]; rfl
    rw [this]
    exact c
/-- a call, its arguments being known -/
theorem lift_run {T : List PyData → S PyData} {ds : List PyData} {ss : List Sv} {k : Dk} {rest : Mu} {ρ : Rho} {μ : Mu} (e : EnvR l k rest ρ μ) (hs : dats ss = some ds) : Jl k rest ρ μ (liftF T ss) (T ds) (pV l) := by
  intro r k' q
  obtain ⟨g, hg⟩ := e.pre
  subst hg
  have hp : parse (dkO k ++ rest ++ g) = some (k, rest ++ g) := by
    rw [List.append_assoc]
    exact parse_dk k _
  have z : liftF T ss (dkO k ++ rest ++ g) = some (upR k' (rest ++ g) r) := by
    unfold liftF
    rw [hp, hs]
    dsimp only
    rw [q]
  cases r with
  | ok d => exact ⟨_, dkO k' ++ rest ++ g, by rw [z, List.append_assoc]; rfl, rfl, e.deck⟩
  | ex c => exact ⟨g, by rw [z, List.append_assoc]; rfl⟩
theorem call_args {Fm : List Sv → M Sv} {n : Nat} {Fs : Rho → M (List Sv)} {ts : S (List PyData)} {T : List PyData → S PyData} (hF : ∀ k rest ρ μ ds, EnvR l1 k rest ρ μ → ds.length = n → Jl k rest ρ μ (Fm (ds.map Sv.dat)) (T ds) (pV l1)) (h : Jd l Fs ts (pA n l1)) :
    Jd l (callF Fm n Fs) (ts.bind T) (pV l1) := fun k rest ρ μ e => by
  refine (h k rest ρ μ e).bind fun k1 μ1 as ds ⟨z, hl, e1⟩ => ?_
  subst z
  rw [List.length_map, hl, decide_eq_true rfl, if_pos rfl]
  exact hF k1 rest ρ μ1 ds e1 hl
theorem e_call {n : Nat} {Fs : Rho → M (List Sv)} {ts : S (List PyData)} {T : List PyData → S PyData} (h : Jd l Fs ts (pA n l1)) : Jd l (callF (liftF T) n Fs) (ts.bind T) (pV l1) :=
  call_args (fun k rest ρ μ ds e _ => lift_run e (dats_map ds)) h
/-- a call that hands the deck over -/
theorem e_callD {n : Nat} {Fs : Rho → M (List Sv)} {ts : S (List PyData)} {T : List PyData → S PyData} (i : Nat) (hi : l[i]? = some (some .dk)) (h : Jd l Fs ts (pA n l1)) : Jd l (callF (liftD T) (n + 1) (argC (slot i) Fs)) (ts.bind T) (pV l1) := fun k rest ρ μ e => by
  obtain ⟨s, h1, h2⟩ := e.at_ i _ hi
  cases h2
  intro r k' q
  have z : callF (liftD T) (n + 1) (argC (slot i) Fs) ρ μ = ((Fs ρ).bind fun ss => if decide ((Sv.ref 1 :: ss).length = n + 1) = true then liftF T ss else M.fail) μ := by
    unfold callF argC
    rw [M.assoc, bind_ok (slot_at μ h1), M.assoc]
    rfl
  rw [z]
  refine ((h k rest ρ μ e).bind fun k1 μ1 as ds ⟨z, hl, e1⟩ => ?_) r k' q
  subst z
  rw [List.length_cons, List.length_map, hl]
  show Jl _ _ _ _ (if decide (n + 1 = n + 1) = true then _ else _) _ _
  rw [decide_eq_true rfl, if_pos rfl]
  exact lift_run e1 (dats_map ds)
end
/-! ### a body keeps its promise -/
def inE (N : Nat) (ds : List PyData) : En := ds.map (fun d => some (.im d)) ++ List.replicate (N - ds.length) none
theorem inE_env {N : Nat} {ds : List PyData} {k : Dk} {rest : Mu} : EnvR (inE N ds) k rest (ini N (ds.map Sv.dat)) (dkO k ++ rest) := by
  refine ⟨⟨[], by rw [List.append_nil]⟩, ?_, fun i x e => ?_, fun i j xs ys t e1 => ?_⟩
  · unfold ini inE
    simp
  · unfold inE at e
    by_cases hi : i < ds.length
    · rw [List.getElem?_append_left (by rw [List.length_map]; exact hi), List.getElem?_map, List.getElem?_eq_getElem hi] at e
      cases e
      refine ⟨.dat ds[i], ?_, rfl⟩
      unfold ini
      rw [List.getElem?_append_left (by simpa using hi)]
      simp [hi]
    · rw [List.getElem?_append_right (by rw [List.length_map]; omega)] at e
      have := List.eq_of_mem_replicate (List.mem_of_getElem? e)
      cases this
  · unfold inE at e1
    by_cases hi : i < ds.length
    · rw [List.getElem?_append_left (by rw [List.length_map]; exact hi), List.getElem?_map, List.getElem?_eq_getElem hi] at e1
      cases e1
    · rw [List.getElem?_append_right (by rw [List.length_map]; omega)] at e1
      have := List.eq_of_mem_replicate (List.mem_of_getElem? e1)
      cases this
theorem dats_eq : ∀ {ss : List Sv} {ds : List PyData}, dats ss = some ds → ss = ds.map Sv.dat
  | [], _, h => by
    cases h
    rfl
  | .dat d :: r, ds, h => by
    have h' : (dats r).map (d :: ·) = some ds := h
    cases q : dats r with
    | none =>
      rw [q] at h'
      cases h'
    | some z =>
      rw [q] at h'
      cases h'
      rw [dats_eq q]
      rfl
  | .ref _ :: _, _, h => nomatch h
  | .scr _ :: _, _, h => nomatch h
theorem wf_deck {k k' : Dk} {rest : Mu} (h : Wf (dkO k ++ rest)) : Wf (dkO k' ++ rest) := fun i xs e t ht => by
  have hl : (dkO k' ++ rest).length = (dkO k ++ rest).length := by rw [List.length_append, List.length_append]; rfl
  rw [hl]
  match i with
  | 0 =>
    have : xs = k'.cs.map svI := by
      cases e
      rfl
    subst this
    obtain ⟨c, _, z⟩ := List.mem_map.mp ht
    cases z
  | 1 =>
    have : xs = dkI k' := by
      cases e
      rfl
    subst this
    rw [List.length_append]
    show t < 2 + rest.length
    unfold dkI at ht
    split at ht
    · rcases List.mem_cons.mp ht with z | z
      · cases z
        omega
      · have := List.mem_singleton.mp z
        cases this
    · rcases List.mem_cons.mp ht with z | z
      · cases z
      · rcases List.mem_cons.mp z with z | z
        · cases z
        · have := List.mem_singleton.mp z
          cases this
          omega
  | i + 2 => exact h (i + 2) xs e t ht
theorem agree_T {N n : Nat} {G : Rho → M Out} {T : List PyData → S PyData} {l : List PyData → En} (pre : List Sv) (h : ∀ ds, ds.length = n → Jd (l ds) G (T ds) pE) (hl : ∀ ds k rest, ds.length = n → EnvR (l ds) k rest (ini N (pre ++ ds.map Sv.dat)) (dkO k ++ rest)) (ss : List Sv) (μ : Mu) (r : Res Sv) (hs : ss.length = n) (wf : Wf μ) (e : liftF T ss μ = some r) :
    ∃ r', G (ini N (pre ++ ss)) μ = some r' ∧ Agree μ.length r r' := by
  unfold liftF at e
  cases hp : parse μ with
  | none =>
    rw [hp] at e
    cases e
  | some z =>
    obtain ⟨k, rest⟩ := z
    cases hd : dats ss with
    | none =>
      rw [hp, hd] at e
      cases e
    | some ds =>
      rw [hp, hd] at e
      dsimp only at e
      cases ht : T ds k with
      | none =>
        rw [ht] at e
        cases e
      | some z =>
        obtain ⟨r0, k'⟩ := z
        rw [ht] at e
        cases e
        have hm := parse_eq hp
        have hss := dats_eq hd
        subst hm hss
        rw [List.length_map] at hs
        have main := h ds hs k rest _ _ (hl ds k rest hs) r0 k' ht
        have hle : (dkO k ++ rest).length ≤ (dkO k' ++ rest).length := by rw [List.length_append, List.length_append]; exact Nat.le_refl _
        cases r0 with
        | ok d =>
          obtain ⟨a, μ', w, p, g, hg⟩ := main
          refine ⟨_, w, ?_⟩
          rcases p with rfl | ⟨ρ', rfl, rfl⟩
          · exact ⟨rfl, ⟨g, hg⟩, wf_deck wf, hle, trivial⟩
          · exact ⟨rfl, ⟨g, hg⟩, wf_deck wf, hle⟩
        | ex c =>
          obtain ⟨g, w⟩ := main
          refine ⟨_, w, rfl, ⟨g, rfl⟩, wf_deck wf, hle, fun f s hf => ?_⟩
          obtain ⟨C, fl⟩ := c
          cases fl with
          | none => cases hf
          | some p =>
            cases hf
            trivial
theorem same_T {N n : Nat} {G : Rho → M Out} {T : List PyData → S PyData} (h : ∀ ds, ds.length = n → Jd (inE N ds) G (T ds) pE) (ss : List Sv) (μ : Mu) (r : Res Sv) (hs : ss.length = n) (wf : Wf μ) (e : liftF T ss μ = some r) :
    ∃ r', G (ini N ss) μ = some r' ∧ Agree μ.length r r' := agree_T (N := N) [] h (fun ds k rest _ => inE_env) ss μ r hs wf e
def inD (N : Nat) (ds : List PyData) : En := some .dk :: inE (N - 1) ds
theorem inD_env {N : Nat} {ds : List PyData} {k : Dk} {rest : Mu} (hN : 0 < N) : EnvR (inD N ds) k rest (ini N (.ref 1 :: ds.map Sv.dat)) (dkO k ++ rest) := by
  have hi : ini N (.ref 1 :: ds.map Sv.dat) = some (.ref 1) :: ini (N - 1) (ds.map Sv.dat) := by
    unfold ini
    rw [List.map_cons, List.cons_append, List.length_cons, show N - ((ds.map Sv.dat).length + 1) = N - 1 - (ds.map Sv.dat).length by omega]
  rw [hi]
  have h := inE_env (N := N - 1) (ds := ds) (k := k) (rest := rest)
  refine ⟨h.pre, by unfold inD; rw [List.length_cons, List.length_cons, h.len], fun i x e => ?_, fun i j xs ys t e1 e2 e3 e4 => ?_⟩
  · cases i with
    | zero =>
      cases e
      exact ⟨_, rfl, rfl⟩
    | succ i => exact h.at_ i x e
  · cases i with
    | zero => cases e1
    | succ i =>
      cases j with
      | zero => cases e2
      | succ j => rw [h.inj i j xs ys t e1 e2 e3 e4]
theorem same_D {N n : Nat} (hN : 0 < N) {G : Rho → M Out} {T : List PyData → S PyData} (h : ∀ ds, ds.length = n → Jd (inD N ds) G (T ds) pE) (ss : List Sv) (μ : Mu) (r : Res Sv) (hs : ss.length = n + 1) (wf : Wf μ) (e : liftD T ss μ = some r) :
    ∃ r', G (ini N ss) μ = some r' ∧ Agree μ.length r r' := by
  unfold liftD at e
  split at e
  · rename_i r0
    exact agree_T (N := N) [.ref 1] h (fun ds k rest _ => inD_env hN) _ μ r (by simpa using hs) wf e
  · cases e
theorem len1 {ds : List PyData} (h : ds.length = 1) : ∃ a, ds = [a] := by
  match ds, h with
  | [a], _ => exact ⟨a, rfl⟩
theorem len2 {ds : List PyData} (h : ds.length = 2) : ∃ a b, ds = [a, b] := by
  match ds, h with
  | [a, b], _ => exact ⟨a, b, rfl⟩
theorem len3 {ds : List PyData} (h : ds.length = 3) : ∃ a b c, ds = [a, b, c] := by
  match ds, h with
  | [a, b, c], _ => exact ⟨a, b, c, rfl⟩
theorem len4 {ds : List PyData} (h : ds.length = 4) : ∃ a b c d, ds = [a, b, c, d] := by
  match ds, h with
  | [a, b, c, d], _ => exact ⟨a, b, c, d, rfl⟩
theorem len5 {ds : List PyData} (h : ds.length = 5) : ∃ a b c d e, ds = [a, b, c, d, e] := by
  match ds, h with
  | [a, b, c, d, e], _ => exact ⟨a, b, c, d, e, rfl⟩
theorem len6 {ds : List PyData} (h : ds.length = 6) : ∃ a b c d e f, ds = [a, b, c, d, e, f] := by
  match ds, h with
  | [a, b, c, d, e, f], _ => exact ⟨a, b, c, d, e, f, rfl⟩
end Pf

namespace Pf
open PySem PySem.Spec PyProof.Rows L2
/-! any, all of lists of bools; enumerate of a list or tuple -/
def asBools : List PyData → Option (List Bool)
  | [] => some []
  | .bool b :: r => (asBools r).map (b :: ·)
  | _ :: _ => none
theorem asBools_eq : ∀ {ds : List PyData} {bs : List Bool}, asBools ds = some bs → ds = bs.map PyData.bool
  | [], _, h => by
    cases h
    rfl
  | .bool b :: r, bs, h => by
    have h' : (asBools r).map (b :: ·) = some bs := h
    cases q : asBools r with
    | none =>
      rw [q] at h'
      cases h'
    | some z =>
      rw [q] at h'
      cases h'
      rw [asBools_eq q]
      rfl
  | .none :: _, _, h => nomatch h
  | .int _ :: _, _, h => nomatch h
  | .str _ :: _, _, h => nomatch h
  | .list _ :: _, _, h => nomatch h
  | .tuple _ :: _, _, h => nomatch h
  | .dict _ :: _, _, h => nomatch h
theorem asBools_map : ∀ bs : List Bool, asBools (bs.map PyData.bool) = some bs
  | [] => rfl
  | b :: bs => by
    show (asBools (bs.map PyData.bool)).map (b :: ·) = _
    rw [asBools_map bs]
    rfl
section
variable {X : Cx} {E : XK} {a : Expr} {Fa : Rho → M Sv} {p pos tpos : Pos}
theorem dqs_bools {K : PySem.W.Frag} {H : Hp} : ∀ {vs : List V} {bs : List Bool}, Dqs K H vs (bs.map PyData.bool) → vs = bs.map V.bl
  | _, [], .nil => rfl
  | _, b :: bs, .cons h r => by
    cases h
    rw [dqs_bools r]
    rfl
def bBool (f : List Bool → Bool) (ss : List Sv) : M Sv := match ss with
  | [s] => (rd s).bind fun d => match d with
    | .list ds => (orFail (asBools ds)).bind fun bs => M.ret (.dat (.bool (f bs)))
    | _ => M.fail
  | _ => M.fail
theorem bool_ent {f : List Bool → Bool} {xs : List V} {H : Hp} {Q : VK} (h : rC X.K E (bBool f) xs H Q) : ∃ (a : Addr) (bs : List Bool), xs = [V.ref a] ∧ SqL X.K H a (bs.map V.bl) ∧ Q (.bl (f bs)) H := by
  obtain ⟨W, μ, ss, r, R, rs, e, q⟩ := h
  unfold bBool at e
  split at e
  · obtain ⟨x, rfl, h⟩ := rels1 rs
    obtain ⟨d, e1, e⟩ := rd_bind e
    obtain ⟨d', z1, h1⟩ := rd_rel R h e1
    cases z1
    split at e
    · obtain ⟨bs, e2, e⟩ := orFail_some e
      cases e
      have z := asBools_eq e2
      subst z
      cases h1 with
      | lst h2 r2 =>
        rw [dqs_bools r2] at h2
        exact ⟨_, bs, rfl, SqL.of h2, q _ _ (Grow.refl _ _ _) R _ (.bl _)⟩
    · cases e
  · cases e
abbrev bAny := bBool fun bs => bs.any id
abbrev bAll := bBool fun bs => bs.all id
theorem b_any (hc : X.calm = true := by rfl) : CallR X (.builtin "any") (rC X.K E bAny) := callr_weak (cr_any hc) fun xs H Q h => bool_ent h
theorem b_all (hc : X.calm = true := by rfl) : CallR X (.builtin "all") (rC X.K E bAll) := callr_weak (cr_all hc) fun xs H Q h => bool_ent h
theorem wk_enuL {K : PySem.W.Frag} {W : Wd} {a : Addr} {vs : List V} {ds : List PyData} (h : W.S a = some (.lst vs)) (r : Dqs K W.S vs ds) : Wk K (Ite K a) W (enuD ds) where
  go := fun i d W1 H μ g R e => by
    obtain ⟨y, e2, rfl⟩ := enu_at e
    obtain ⟨v, a1, _⟩ := r.getD e2
    exact ⟨vs, v, SqL.of (R.sub _ _ (g _ _ h)), a1⟩
  yld := fun i d W1 H μ x H' g R e y => by
    obtain ⟨z, e2, rfl⟩ := enu_at e
    obtain ⟨T, x1, rfl, nT, rfl, f1⟩ := y
    obtain ⟨v, a1, q1⟩ := r.getD e2
    have z1 := f1 vs (SqL.of (R.sub _ _ (g _ _ h)))
    rw [a1] at z1
    cases z1
    exact pair_new R nT (.int _) (Dq.mono g q1)
  stop := fun i W1 H μ g R e => ⟨vs, SqL.of (R.sub _ _ (g _ _ h)), by rw [r.len, ← enu_len]; exact e⟩
theorem pi_or {tg e : Expr} {t1 t2 : TI} (h1 : PI X tg e t1) (h2 : PI X tg e t2) : PI X tg e fun σ H R => t1 σ H R ∨ t2 σ H R := ⟨fun pins s σ H Q I q => q.elim (h1.run pins s σ H Q I) (h2.run pins s σ H Q I)⟩
def enuL (Fa : Rho → M Sv) (ρ : Rho) : M (List PyData) := (Fa ρ).bind fun s => match s with
  | .dat (.list ds) => M.ret (enuD ds)
  | _ => M.fail
theorem i_enuL {elts : List Expr} {kk : Nat} (hc : X.calm = true) (hm : X.mg "enumerate" = none) (ha : PX X E a Fa) (hg : Gl X "enumerate" := by rfl) (hs : starEach [a] X.env = (false, eval a X.env) :: starEach [] X.env := by rfl) (hs2 : starEach [a] X.env = [(false, eval a X.env)] := by rfl) :
    PIX X E (.Tuple elts kk tpos) (.Call (.Name "enumerate" p) [a] [] pos) (enuL Fa) := pi_weak (pi_enum hg hm (pa_cons ha pa_nil hs) hs2) fun σ H R ⟨W, ρ, μ, r, h, e, q⟩ => by
  refine tX_bind h e q fun v s W1 H1 μ1 g1 h1 rs e1 q1 => ?_
  split at e1
  · cases e1
    cases rs with
    | lst z1 y1 => exact ⟨_, _, rfl, SqL.of (h1.rel.sub _ _ z1), q1 _ _ (Grow.refl _ _ _) h1.rel _ (wk_enuL z1 y1)⟩
  · cases e1
def enuA (Fa : Rho → M Sv) (ρ : Rho) : M (List PyData) := (Fa ρ).bind fun s => match s with
  | .dat (.list ds) => M.ret (enuD ds)
  | .dat (.tuple ds) => M.ret (enuD ds)
  | _ => M.fail
theorem i_enuA {elts : List Expr} {kk : Nat} (hc : X.calm = true) (hm : X.mg "enumerate" = none) (ha : PX X E a Fa) (hg : Gl X "enumerate" := by rfl) (hs : starEach [a] X.env = (false, eval a X.env) :: starEach [] X.env := by rfl) (hs2 : starEach [a] X.env = [(false, eval a X.env)] := by rfl) :
    PIX X E (.Tuple elts kk tpos) (.Call (.Name "enumerate" p) [a] [] pos) (enuA Fa) := pi_weak (pi_or (i_enuL (tpos := tpos) (elts := elts) (kk := kk) hc hm ha hg hs hs2) (i_enu hc hm ha hg hs hs2)) fun σ H R ⟨W, ρ, μ, r, h, e, q⟩ => by
  rcases bind_some e with ⟨s, μ1, e1, e2⟩ | ⟨c, μ1, e1, rfl⟩
  · split at e2
    · refine .inl ⟨W, ρ, μ, r, h, ?_, q⟩
      unfold enuL
      rw [bind_ok e1]
      exact e2
    · refine .inr ⟨W, ρ, μ, r, h, ?_, q⟩
      unfold enuV
      rw [bind_ok e1]
      exact e2
    · cases e2
  · exact .inl ⟨W, ρ, μ, _, h, bind_ex e1, q⟩
end
end Pf

namespace Pf
open PySem PySem.Spec PyProof.Rows L2
/-! ### operators of data -/
def szN (n : Nat) : Bool := decide (n ≤ 1000000)
def oAdd : PyData → PyData → Option PyData
  | .int i, .int j => some (.int (i + j))
  | .tuple xs, .tuple ys => if xs.length + ys.length ≤ 1000000 then some (.tuple (xs ++ ys)) else none
  | .str x, .str y => if x.length + y.length ≤ 1000000 then some (.str (x ++ y)) else none
  | .list xs, .list ys => if xs.length + ys.length ≤ 1000000 then some (.list (xs ++ ys)) else none
  | _, _ => none
def oSub : PyData → PyData → Option PyData
  | .int i, .int j => some (.int (i - j))
  | _, _ => none
def oMul : PyData → PyData → Option PyData
  | .int i, .int j => if (small i || small j) = true then some (.int (i * j)) else none
  | .list xs, .int k => if (small (2 * k) && szOk (xs.length * k.toNat)) = true then some (.list (List.replicate k.toNat xs).flatten) else none
  | _, _ => none
def oMulT : PyData → PyData → Option PyData
  | .tuple xs, .int k => if 0 < xs.length ∧ 1 ≤ k ∧ k ≤ 1000 ∧ xs.length ≤ 1000 then some (.tuple (List.replicate k.toNat xs).flatten) else none
  | _, _ => none
def oFdiv : PyData → PyData → Option PyData
  | .int i, .int j => if 0 < j ∧ j < 1073741824 then some (.int (i / j)) else none
  | _, _ => none
def oMod : PyData → PyData → Option PyData
  | .int i, .int j => if 0 < j then some (.int (i % j)) else none
  | _, _ => none
def oPow : PyData → PyData → Option PyData
  | .int i, .int j => if 0 ≤ j ∧ j ≤ 1000000 ∧ i.natAbs < 2 ^ 64 then some (.int (i ^ j.toNat)) else none
  | _, _ => none
def cCmp (f : Int → Int → Bool) : PyData → PyData → Option Bool
  | .int i, .int j => some (f i j)
  | _, _ => none
abbrev cLt := cCmp fun i j => decide (i < j)
abbrev cLe := cCmp fun i j => decide (i ≤ j)
abbrev cGt := cCmp fun i j => decide (j < i)
abbrev cGe := cCmp fun i j => decide (j ≤ i)
def cEqn (n : Bool) : PyData → PyData → Option Bool
  | .str x, .str y => some (Bool.xor n (decide (x = y)))
  | .int x, .int y => some (Bool.xor n (decide (x = y)))
  | a, b => if (SeqAt.shaped a && SeqAt.shaped b) = true then some (Bool.xor n (PyData.eqv a b)) else none
abbrev cEq := cEqn false
abbrev cNe := cEqn true
def isNone : PyData → Bool
  | .none => true
  | _ => false
def cIs (n : Bool) (a b : PyData) : Option Bool := match b with
  | .none => some (Bool.xor n (isNone a))
  | _ => none
def cIn (a b : PyData) : Option Bool := match b with
  | .list ds => if (SeqAt.shaped a && SeqAt.shaped (.list ds)) = true then some (ds.any fun z => PyData.eqv z a) else none
  | _ => none
def oIx : PyData → PyData → Option PyData
  | .list xs, .int i => atI xs i
  | .tuple xs, .int i => atI xs i
  | _, _ => none
def noList : PyData → Bool
  | .list _ => false
  | _ => true
theorem Rdr.nl {μ : Mu} {s : Sv} {d : PyData} (h : Rdr μ s d) (hd : noList d = true) : s = .dat d := h.imm fun ds z => by
  rw [z] at hd
  cases hd
theorem op_add' : Op2 (pAdd false) oAdd := fun a b da db d μ ra rb e => by
  unfold oAdd at e
  split at e
  · rw [ra.nl rfl, rb.nl rfl]
    cases e
    rfl
  · rw [ra.nl rfl, rb.nl rfl]
    split at e
    · rename_i hs
      cases e
      show (if _ = true then _ else _ : M Sv) μ = _
      rw [if_pos (show szOk _ = true from decide_eq_true hs)]
      rfl
    · cases e
  · rw [ra.nl rfl, rb.nl rfl]
    split at e
    · rename_i hs
      cases e
      show (if _ = true then _ else _ : M Sv) μ = _
      rw [if_pos (show szOk _ = true from decide_eq_true hs)]
      rfl
    · cases e
  · rename_i xs ys
    split at e
    · rename_i hs
      cases e
      have h2 := rb.ls
      have fin : ∀ m : M Sv, (m = if szOk ((xs.map Sv.dat).length + (ys.map Sv.dat).length) = true then mkl false (xs.map Sv.dat ++ ys.map Sv.dat) else M.fail) → m μ = some (.ok (.dat (.list (xs ++ ys))) μ) := fun m hm => by
        rw [hm, if_pos (show szOk _ = true from decide_eq_true (by rw [List.length_map, List.length_map]; exact hs)), ← List.map_append]
        exact mkl_dat _ _
      rcases ra with rfl | ⟨t, ds, rfl, q, z⟩
      · show M.bind (lsOf b) _ μ = _
        rw [bind_ok h2]
        exact fin _ (by rw [List.length_map, List.length_map])
      · cases z
        have h1 : lsOf (.ref t) μ = some (.ok (xs.map Sv.dat) μ) := by
          unfold lsOf
          simp only [q]
        show M.bind (lsOf (.ref t)) _ μ = _
        rw [bind_ok h1, bind_ok h2]
        exact fin _ rfl
    · cases e
  · cases e
theorem op_sub' : Op2 pSub oSub := fun a b da db d μ ra rb e => by
  unfold oSub at e
  split at e
  · rw [ra.nl rfl, rb.nl rfl]
    cases e
    rfl
  · cases e
theorem op_mul' : Op2D (pMul false) oMul := fun da db d μ e => by
  unfold oMul at e
  split at e
  · split at e
    · rename_i hs
      cases e
      show (if _ = true then _ else _ : M Sv) μ = _
      rw [if_pos hs]
      rfl
    · cases e
  · rename_i xs k
    split at e
    · rename_i hs
      cases e
      show (if _ = true then _ else _ : M Sv) μ = _
      rw [if_pos hs]
      have : (List.replicate k.toNat (xs.map Sv.dat)).flatten = ((List.replicate k.toNat xs).flatten).map Sv.dat := by
        rw [List.map_flatten, List.map_replicate]
      rw [this]
      exact mkl_dat _ _
    · cases e
  · cases e
theorem op_fdiv' : Op2 pFdiv oFdiv := fun a b da db d μ ra rb e => by
  unfold oFdiv at e
  split at e
  · rw [ra.nl rfl, rb.nl rfl]
    split at e
    · rename_i hs
      cases e
      show (if _ = true then _ else _ : M Sv) μ = _
      rw [if_pos (by rw [decide_eq_true hs.1, decide_eq_true hs.2]; rfl)]
      rfl
    · cases e
  · cases e
theorem op_mod' : Op2 pMod oMod := fun a b da db d μ ra rb e => by
  unfold oMod at e
  split at e
  · rw [ra.nl rfl, rb.nl rfl]
    split at e
    · rename_i hs
      cases e
      show (if _ = true then _ else _ : M Sv) μ = _
      rw [if_pos (decide_eq_true hs)]
      rfl
    · cases e
  · cases e
theorem op_pow' : Op2 pPow oPow := fun a b da db d μ ra rb e => by
  unfold oPow at e
  split at e
  · rw [ra.nl rfl, rb.nl rfl]
    split at e
    · rename_i hs
      cases e
      show (if _ = true then _ else _ : M Sv) μ = _
      rw [if_pos (by rw [decide_eq_true hs.1, decide_eq_true hs.2.1, decide_eq_true hs.2.2]; rfl)]
      rfl
    · cases e
  · cases e
theorem op_mulT' : Op2 pMulA oMulT := fun a b da db d μ ra rb e => by
  unfold oMulT at e
  split at e
  · rw [ra.nl rfl, rb.nl rfl]
    split at e
    · rename_i hs
      cases e
      show (if _ = true then _ else _ : M Sv) μ = _
      rw [if_pos (by rw [decide_eq_true hs.1, decide_eq_true hs.2.1, decide_eq_true hs.2.2.1, decide_eq_true hs.2.2.2]; rfl)]
      rfl
    · cases e
  · cases e
theorem op_cmp' {f : Int → Int → Bool} : OpB (pCmp f) (cCmp f) := fun a b da db d μ ra rb e => by
  unfold cCmp at e
  split at e
  · rw [ra.nl rfl, rb.nl rfl]
    cases e
    rfl
  · cases e
theorem op_eqn' {n : Bool} : OpB (pEqn n) (cEqn n) := fun a b da db d μ ra rb e => by
  have gen : ∀ {a b : Sv} {da db : PyData}, Rdr μ a da → Rdr μ b db → (if (SeqAt.shaped da && SeqAt.shaped db) = true then some (Bool.xor n (PyData.eqv da db)) else none) = some d → pEqD n a b μ = some (.ok (.dat (.bool d)) μ) := fun {a b da db} ra rb e => by
    split at e
    · rename_i hs
      cases e
      unfold pEqD
      rw [bind_ok ra.rd, bind_ok rb.rd, if_pos hs]
      rfl
    · cases e
  unfold cEqn at e
  split at e
  · rw [ra.nl rfl, rb.nl rfl]
    cases e
    rfl
  · rw [ra.nl rfl, rb.nl rfl]
    cases e
    rfl
  · rename_i h1 h2
    have := gen ra rb e
    unfold pEqn
    split
    · rename_i x y
      rcases ra with z | ⟨t, ds, z, _, _⟩
      · cases z
        rcases rb with z | ⟨t, ds, z, _, _⟩
        · cases z
          exact absurd rfl (h1 x y rfl)
        · cases z
      · cases z
    · rename_i x y
      rcases ra with z | ⟨t, ds, z, _, _⟩
      · cases z
        rcases rb with z | ⟨t, ds, z, _, _⟩
        · cases z
          exact absurd rfl (h2 x y rfl)
        · cases z
      · cases z
    · exact this
theorem isNon_dat (d : PyData) : isNon (.dat d) = isNone d := by cases d <;> rfl
theorem op_is' {n : Bool} : OpB (pIs n) (cIs n) := fun a b da db d μ ra rb e => by
  unfold cIs at e
  split at e
  · rw [rb.nl rfl]
    cases e
    rcases ra with rfl | ⟨t, ds, rfl, _, rfl⟩
    · show some (Res.ok (Sv.dat (.bool (Bool.xor n (isNon (.dat da))))) μ) = _
      rw [isNon_dat]
    · rfl
  · cases e
theorem op_in' : OpB pIn cIn := fun a b da db d μ ra rb e => by
  unfold cIn at e
  split at e
  · split at e
    · rename_i hs
      cases e
      unfold pIn
      rw [bind_ok ra.rd, bind_ok rb.rd]
      dsimp only
      rw [if_pos hs]
      rfl
    · cases e
  · cases e
theorem op_ix' : Op2 pIx oIx := fun a b da db d μ ra rb e => by
  unfold oIx at e
  split at e
  · rename_i xs i
    rw [rb.nl rfl]
    have hx : atI (xs.map Sv.dat) i = some (.dat d) := atI_map e
    rcases ra with rfl | ⟨t, ds, rfl, q, z⟩
    · simp only [pIx, lsOf, M.bind, hx, orFail, e, Option.map]
    · cases z
      simp only [pIx, lsOf, M.bind, q, hx, orFail, e, Option.map]
  · rename_i xs i
    rw [ra.nl rfl, rb.nl rfl]
    simp only [pIx, M.bind, e, orFail, Option.map, M.ret]
  · cases e
/-! built-ins -/
def oLen : PyData → Option PyData
  | .tuple ds => some (.int ds.length)
  | .list ds => some (.int ds.length)
  | .str x => if x.length ≤ 1000000 then some (.int x.length) else none
  | _ => none
def oAbs : PyData → Option PyData
  | .int i => some (.int (if i < 0 then -i else i))
  | _ => none
def oMax2 : PyData → PyData → Option PyData
  | .int i, .int j => some (.int (if j > i then j else i))
  | _, _ => none
def oMin2 : PyData → PyData → Option PyData
  | .int i, .int j => some (.int (if j < i then j else i))
  | _, _ => none
def oBest (f : Int → Int → Int) : PyData → Option PyData
  | .list ds => match asInts ds with
    | some (n :: r) => some (.int (r.foldl f n))
    | _ => none
  | .tuple ds => match asInts ds with
    | some (n :: r) => some (.int (r.foldl f n))
    | _ => none
  | _ => none
def oTuple : PyData → Option PyData
  | .list ds => some (.tuple ds)
  | .tuple ds => some (.tuple ds)
  | _ => none
def oList : PyData → Option PyData
  | .list ds => some (.list ds)
  | .tuple ds => some (.list ds)
  | _ => none
def oListM : PyData → Option (List PyData)
  | .list ds => some ds
  | .tuple ds => some ds
  | _ => none
def oRepr (d : PyData) : Option PyData := if okShow d = true then some (.str d.shown) else none
def oInt : PyData → Option PyData
  | .bool b => some (.int (if b = true then 1 else 0))
  | _ => none
theorem bl_abs : Bl1 bAbs oAbs := fun a da d μ ra e => by
  unfold oAbs at e
  split at e
  · rw [ra.nl rfl]
    cases e
    rfl
  · cases e
theorem bl_int : Bl1 bInt oInt := fun a da d μ ra e => by
  unfold oInt at e
  split at e
  · rw [ra.nl rfl]
    cases e
    rfl
  · cases e
theorem bl_repr : Bl1 bRepr oRepr := fun a da d μ ra e => by
  unfold oRepr at e
  split at e
  · rename_i hs
    cases e
    unfold bRepr
    dsimp only
    rw [bind_ok ra.rd, if_pos hs]
    rfl
  · cases e
theorem bl_max2 : Bl2 bMax2 oMax2 := fun da db d μ e => by
  unfold oMax2 at e
  split at e
  · cases e
    rfl
  · cases e
theorem bl_min2 : Bl2 bMin2 oMin2 := fun da db d μ e => by
  unfold oMin2 at e
  split at e
  · cases e
    rfl
  · cases e
theorem bl_len : Bl1 bLen oLen := fun a da d μ ra e => by
  unfold oLen at e
  split at e
  · rw [ra.nl rfl]
    cases e
    rfl
  · rename_i xs
    cases e
    have h := ra.ls
    have : bLen [a] = (lsOf a).bind fun xs => M.ret (.dat (.int xs.length)) := by
      rcases ra with rfl | ⟨t, ds, rfl, q, z⟩ <;> rfl
    rw [this, bind_ok h, List.length_map]
    rfl
  · rw [ra.nl rfl]
    split at e
    · rename_i hs
      cases e
      show (if _ = true then _ else _ : M Sv) μ = _
      rw [if_pos (show szOk _ = true from decide_eq_true hs)]
      rfl
    · cases e
  · cases e
theorem bl_tuple : Bl1 bTuple oTuple := fun a da d μ ra e => by
  unfold oTuple at e
  split at e
  · rename_i xs
    cases e
    have h := ra.ls
    have : bTuple [a] = (lsOf a).bind fun xs => mkt xs := by
      rcases ra with rfl | ⟨t, ds, rfl, q, z⟩ <;> rfl
    rw [this, bind_ok h]
    unfold mkt
    rw [dats_map]
    rfl
  · rw [ra.nl rfl]
    cases e
    rfl
  · cases e
theorem bl_list : Bl1 (bList false) oList := fun a da d μ ra e => by
  unfold oList at e
  split at e
  · rename_i xs
    cases e
    have h := ra.ls
    have : bList false [a] = (lsOf a).bind fun xs => mkl false xs := by
      rcases ra with rfl | ⟨t, ds, rfl, q, z⟩ <;> rfl
    rw [this, bind_ok h]
    exact mkl_dat _ _
  · rw [ra.nl rfl]
    cases e
    exact mkl_dat _ _
  · cases e
theorem mk_list : MkM (bList true) oListM := fun a da d μ ra e => by
  unfold oListM at e
  split at e
  · rename_i xs
    cases e
    have h := ra.ls
    have : bList true [a] = (lsOf a).bind fun xs => mkl true xs := by
      rcases ra with rfl | ⟨t, ds, rfl, q, z⟩ <;> rfl
    rw [this, bind_ok h]
    rfl
  · rw [ra.nl rfl]
    cases e
    rfl
  · cases e
def oMulM (a b : PyData) : Option (List PyData) := match oMul a b with
  | some (.list ds) => some ds
  | _ => none
theorem mk_mul : OpM (pMul true) oMulM := fun b da db ds μ rb e => by
  unfold oMulM at e
  cases da with
  | list xs =>
    cases db with
    | int k =>
      dsimp only [oMul] at e
      by_cases hs : (small (2 * k) && szOk (xs.length * k.toNat)) = true
      · rw [if_pos hs] at e
        cases e
        rw [rb.nl rfl]
        show (if _ = true then _ else _ : M Sv) μ = _
        rw [if_pos hs]
        have : (List.replicate k.toNat (xs.map Sv.dat)).flatten = ((List.replicate k.toNat xs).flatten).map Sv.dat := by
          rw [List.map_flatten, List.map_replicate]
        rw [this]
        rfl
      · rw [if_neg hs] at e
        cases e
    | _ => cases e
  | int i =>
    cases db with
    | int j =>
      dsimp only [oMul] at e
      by_cases hs : (small i || small j) = true
      · rw [if_pos hs] at e
        cases e
      · rw [if_neg hs] at e
        cases e
    | _ => cases e
  | _ => cases e
def oSum : PyData → Option PyData
  | .list ds => (asInts ds).map fun ns => .int ns.sum
  | _ => none
theorem bl_sum : Bl1 bSum oSum := fun a da d μ ra e => by
  unfold oSum at e
  split at e
  · rename_i ds
    unfold bSum
    dsimp only
    rw [bind_ok ra.rd]
    cases q : asInts ds with
    | none =>
      rw [q] at e
      cases e
    | some ns =>
      rw [q] at e
      cases e
      dsimp only
      rw [bind_ok (show orFail (asInts ds) μ = some (.ok ns μ) by rw [q]; rfl)]
      rfl
  · cases e
theorem bl_best {f : Int → Int → Int} : Bl1 (bBest f) (oBest f) := fun a da d μ ra e => by
  unfold bBest
  dsimp only
  rw [bind_ok ra.rd]
  unfold oBest at e
  split at e
  · rename_i ds
    try dsimp only
    split at e
    · rename_i n r q
      cases e
      rw [bind_ok (show orFail (asInts ds) μ = some (.ok (n :: r) μ) by rw [q]; rfl)]
      rfl
    · cases e
  · rename_i ds
    try dsimp only
    split at e
    · rename_i n r q
      cases e
      rw [bind_ok (show orFail (asInts ds) μ = some (.ok (n :: r) μ) by rw [q]; rfl)]
      rfl
    · cases e
  · cases e
def oAny : PyData → Option PyData
  | .list ds => (asBools ds).map fun bs => .bool (bs.any id)
  | _ => none
def oAll : PyData → Option PyData
  | .list ds => (asBools ds).map fun bs => .bool (bs.all id)
  | _ => none
theorem bl_bool {f : List Bool → Bool} {o : PyData → Option PyData} (ho : ∀ d, o d = match d with | .list ds => (asBools ds).map fun bs => PyData.bool (f bs) | _ => none) : Bl1 (bBool f) o := fun a da d μ ra e => by
  rw [ho] at e
  split at e
  · rename_i ds
    unfold bBool
    dsimp only
    rw [bind_ok ra.rd]
    cases q : asBools ds with
    | none =>
      rw [q] at e
      cases e
    | some bs =>
      rw [q] at e
      cases e
      dsimp only
      rw [bind_ok (show orFail (asBools ds) μ = some (.ok bs μ) by rw [q]; rfl)]
      rfl
  · cases e
theorem bl_any : Bl1 bAny oAny := bl_bool fun d => by cases d <;> rfl
theorem bl_all : Bl1 bAll oAll := bl_bool fun d => by cases d <;> rfl
/-! slices, isinstance, choices of new lists -/
section
variable {l l1 l2 l3 : En} {Fa Fb Fc : Rho → M Sv} {ta tb tc : S PyData}
abbrev pO (l : En) : Post (Option Int) (Option Int) := fun k rest ρ μ a d => a = d ∧ EnvR l k rest ρ μ
theorem p_no : Jd l noPart (S.ret none) (pO l) := fun k rest ρ μ e => Jl.ret ⟨rfl, e⟩
theorem p_so (h : Jd l Fa ta (pV l1)) : Jd l (aPart Fa) (ta.bind fun a => S.lift ((toI a).map some)) (pO l1) := fun k rest ρ μ e => by
  refine (h k rest ρ μ e).bind fun k1 μ1 a da ⟨z, e1⟩ => ?_
  subst z
  refine Jl.lift fun b q => ?_
  cases da <;> cases q
  exact ⟨_, μ1, rfl, rfl, e1⟩
def oSl (d : PyData) (lo hi : Option Int) : Option PyData := match d with
  | .tuple ds => some (.tuple (cutL ds lo hi))
  | .list ds => some (.list (cutL ds lo hi))
  | .str z => if z.length ≤ 1000000 then some (.str (cutS z lo hi)) else none
  | _ => none
theorem e_sl {Fl Fh : Rho → M (Option Int)} {tl th : S (Option Int)} (h : Jd l Fa ta (pV l1)) (h1 : Jd l1 Fl tl (pO l2)) (h2 : Jd l2 Fh th (pO l3)) : Jd l (slV false Fa Fl Fh) (ta.bind fun a => tl.bind fun lo => th.bind fun hi => S.lift (oSl a lo hi)) (pV l3) := fun k rest ρ μ e => by
  refine (h k rest ρ μ e).bind fun k1 μ1 a da ⟨z, e1⟩ => ?_
  subst z
  refine (h1 k1 rest ρ μ1 e1).bind fun k2 μ2 lo lo' ⟨z, e2⟩ => ?_
  subst z
  refine (h2 k2 rest ρ μ2 e2).bind fun k3 μ3 hi hi' ⟨z, e3⟩ => ?_
  subst z
  refine Jl.lift fun d q => ⟨.dat d, μ3, ?_, rfl, e3⟩
  cases da with
  | tuple ds =>
    cases q
    rfl
  | list ds =>
    cases q
    show mkl false (cutL (ds.map Sv.dat) lo hi) μ3 = _
    rw [cutL_map]
    exact mkl_dat _ _
  | str z =>
    dsimp only [oSl] at q
    by_cases hs : z.length ≤ 1000000
    · rw [if_pos hs] at q
      cases q
      show (if _ = true then _ else _ : M Sv) μ3 = _
      rw [if_pos (show szOk _ = true from decide_eq_true hs)]
      rfl
    · rw [if_neg hs] at q
      cases q
  | _ => cases q
/-- .. of a tagged list -/
theorem e_slW {Fl Fh : Rho → M (Option Int)} (i : Nat) {ds : List PyData} (hi : l[i]? = some (some (.mt ds))) (lo hi' : Option Int) (h1 : Jd l Fl (S.ret lo) (pO l)) (h2 : Jd l Fh (S.ret hi') (pO l)) : Jd l (slV false (slot i) Fl Fh) (S.lift (oSl (.list ds) lo hi')) (pV l) := fun k rest ρ μ e => by
  obtain ⟨s, a1, t, rfl, a3, a4⟩ := e.at_ i _ hi
  refine Jl.lift fun d q => ?_
  cases q
  obtain ⟨_, μ1, w1, rfl, e1⟩ := h1 k rest ρ μ e _ _ rfl
  obtain ⟨_, μ2, w2, rfl, e2⟩ := h2 k rest ρ μ1 e1 _ _ rfl
  obtain ⟨s, b1, t', rfl, b3, b4⟩ := e2.at_ i _ hi
  rw [a1] at b1
  cases b1
  refine ⟨_, μ2, ?_, rfl, e2⟩
  unfold slV
  rw [bind_ok (slot_at μ a1), bind_ok w1, bind_ok w2]
  show M.bind (lsOf (.ref t)) _ μ2 = _
  rw [bind_ok (show lsOf (.ref t) μ2 = some (.ok (ds.map Sv.dat) μ2) by unfold lsOf; simp only [b4]), cutL_map]
  exact mkl_dat _ _
def oRev : PyData → Option PyData
  | .list ds => some (.list ds.reverse)
  | _ => none
theorem e_rev (h : Jd l Fa ta (pW l1)) : Jd l (revV false Fa) (ta.bind fun a => S.lift (oRev a)) (pV l1) := fun k rest ρ μ e => by
  refine (h k rest ρ μ e).bind fun k1 μ1 a da ⟨ra, e1⟩ => ?_
  refine Jl.lift fun d q => ⟨.dat d, μ1, ?_, rfl, e1⟩
  cases da <;> cases q
  rw [bind_ok ra.ls, ← List.map_reverse]
  exact mkl_dat _ _
def oRevT : PyData → Option PyData
  | .tuple ds => some (.tuple ds.reverse)
  | _ => none
theorem e_revT (h : Jd l Fa ta (pV l1)) : Jd l (revTV Fa) (ta.bind fun a => S.lift (oRevT a)) (pV l1) := fun k rest ρ μ e => by
  refine (h k rest ρ μ e).bind fun k1 μ1 a da ⟨ra, e1⟩ => ?_
  subst ra
  refine Jl.lift fun d q => ⟨.dat d, μ1, ?_, rfl, e1⟩
  cases da <;> cases q
  rfl
def oIsi (n : String) (d : PyData) : Option PyData := (kitB (tyN (.dat d)) n).map .bool
theorem e_isi (n : String) (h : Jd l Fa ta (pV l1)) : Jd l (isiV n Fa) (ta.bind fun a => S.lift (oIsi n a)) (pV l1) := fun k rest ρ μ e => by
  refine (h k rest ρ μ e).bind fun k1 μ1 a da ⟨ra, e1⟩ => ?_
  subst ra
  refine Jl.lift fun d q => ⟨.dat d, μ1, ?_, rfl, e1⟩
  unfold oIsi at q
  unfold isi
  cases z : kitB (tyN (.dat da)) n with
  | none =>
    rw [z] at q
    cases q
  | some b =>
    rw [z] at q
    cases q
    rfl
theorem m_if {F : Rho → M Bool} {t : S Bool} {t1 t2 : S (List PyData)} (h : Jd l F t (pB l1)) (h1 : Jd l1 Fa t1 (pM l2)) (h2 : Jd l1 Fb t2 (pM l2)) : Jd l (ifV F Fa Fb) (t.bind fun a => if a = true then t1 else t2) (pM l2) := fun k rest ρ μ e => by
  refine (h k rest ρ μ e).bind fun k1 μ1 a da ⟨z, e1⟩ => ?_
  subst z
  exact Jl.ite (h1 k1 rest ρ μ1 e1) (h2 k1 rest ρ μ1 e1)
theorem w_enA (h : Jd l Fa ta (pV l1)) : Jd l (enuA Fa) (ta.bind fun a => S.lift ((seqD a).map enuD)) (pL l1) := fun k rest ρ μ e => by
  refine (h k rest ρ μ e).bind fun k1 μ1 a da ⟨z, e1⟩ => ?_
  subst z
  refine Jl.lift fun ds q => ?_
  cases da <;> cases q <;> exact ⟨_, μ1, rfl, rfl, e1⟩
theorem b_tgF {σ τ : Type} {x : Bool} {T : Sv → Rho → M Rho} {B : Rho → M Out} {u : PyData → S σ} {tb : σ → S (Fl τ)} {e' : σ → En} {h : τ → En} (d : PyData) (hT : Jd l (T (.dat d)) (u d) (pT e')) (hb : ∀ s, Jd (e' s) B (tb s) (pS x h)) : Jd l (fun ρ => (T (.dat d) ρ).bind B) ((u d).bind tb) (pS x h) := fun k rest ρ μ e => by
  refine (hT k rest ρ μ e).bind fun k1 μ1 a s e1 => ?_
  exact hb s k1 rest a μ1 e1
theorem r_raise {C f : Str} (h : Jd l Fa ta (pV l1)) {G : Rho → M Out} (hG : G = fun ρ => (Fa ρ).bind fun s => M.thr ⟨C, some (f, s)⟩) : Jd l G (ta.bind fun d => S.thr ⟨C, some (f, d)⟩) pR := fun k rest ρ μ e => by
  subst hG
  refine (h k rest ρ μ e).bind fun k1 μ1 a da ⟨z, e1⟩ => ?_
  subst z
  intro r k' q
  cases q
  obtain ⟨g, hg⟩ := e1.pre
  exact ⟨g, by rw [hg]; rfl⟩
end
end Pf

set_option maxHeartbeats 1000000
namespace Pf
open PySem PySem.Spec PyProof.Rows L2
noncomputable def T_way_between (a0 a1 a2 : PyData) : S PyData :=
  (((S.ret a1).bind fun x1 => (S.ret []).bind fun as2 => S.ret (x1 :: as2)).bind fun v3 =>
  (((S.ret a2).bind fun x4 => (S.ret []).bind fun as5 => S.ret (x4 :: as5)).bind fun v6 =>
  ((S.itW (fun (s7 : List PyData × List PyData) => ((((S.ret (PyData.int 1)).bind fun x8 => S.lift (oNeg x8)).bind fun x9 => S.lift (oIx (.list s7.1) x9)).bind fun x12 => (((S.ret (PyData.int 1)).bind fun x10 => S.lift (oNeg x10)).bind fun x11 => S.lift (oIx (.list s7.2) x11)).bind fun x13 => S.lift (cNe x12 x13))) (fun (s7 : List PyData × List PyData) => ((((((S.ret (PyData.int 1)).bind fun x14 => S.lift (oNeg x14)).bind fun x15 => S.lift (oIx (.list s7.1) x15)).bind fun x18 => (((S.ret (PyData.int 1)).bind fun x16 => S.lift (oNeg x16)).bind fun x17 => S.lift (oIx (.list s7.2) x17)).bind fun x19 => S.lift (cGt x18 x19)).bind fun z42 => if z42 = true then (((((S.ret a0).bind fun x24 => ((((S.ret (PyData.int 1)).bind fun x20 => S.lift (oNeg x20)).bind fun x21 => S.lift (oIx (.list s7.1) x21)).bind fun x22 => (S.ret (PyData.int 1)).bind fun x23 => S.lift (oSub x22 x23)).bind fun x25 => S.lift (oIx x24 x25)).bind fun x26 => (S.ret (PyData.int 0)).bind fun x27 => S.lift (oIx x26 x27)).bind fun x28 => S.lift (appD s7.1 x28)).bind fun s30 => S.ret (s30, s7.2)) else (((((S.ret a0).bind fun x35 => ((((S.ret (PyData.int 1)).bind fun x31 => S.lift (oNeg x31)).bind fun x32 => S.lift (oIx (.list s7.2) x32)).bind fun x33 => (S.ret (PyData.int 1)).bind fun x34 => S.lift (oSub x33 x34)).bind fun x36 => S.lift (oIx x35 x36)).bind fun x37 => (S.ret (PyData.int 0)).bind fun x38 => S.lift (oIx x37 x38)).bind fun x39 => S.lift (appD s7.2 x39)).bind fun s41 => S.ret (s7.1, s41))).bind fun s44 => S.ret (s44.1, s44.2))) 100 (v3, v6)).bind fun v45 =>
  ((S.lift (popD v45.2)).bind fun v46 =>
  ((((S.ret (PyData.list v46)).bind fun x47 => S.lift (oRev x47)).bind fun x48 => S.lift (oAdd (.list v45.1) x48)).bind fun x49 => S.lift (oTuple x49))))))
noncomputable abbrev F_way_between : List Sv → M Sv := liftF (u3 T_way_between)
noncomputable def G_way_between : Rho → M Out :=
  (gSeq (gSet 3 (lstV true (argC (slot 1) argN)))
  (gSeq (gSet 4 (lstV true (argC (slot 2) argN)))
  (gSeq (loopW (tst (bin pNe (bin pIx (slot 3) (negV (con (.int 1)))) (bin pIx (slot 4) (negV (con (.int 1))))))
  (gIf (tst (bin pGt (bin pIx (slot 3) (negV (con (.int 1)))) (bin pIx (slot 4) (negV (con (.int 1))))))
  (gExpr (appV (slot 3) (bin pIx (bin pIx (slot 0) (bin pSub (bin pIx (slot 3) (negV (con (.int 1)))) (con (.int 1)))) (con (.int 0)))))
  (gExpr (appV (slot 4) (bin pIx (bin pIx (slot 0) (bin pSub (bin pIx (slot 4) (negV (con (.int 1)))) (con (.int 1)))) (con (.int 0)))))) 100)
  (gSeq (gExpr (popV (slot 4)))
  (gRet (callV bTuple (argC (bin (pAdd false) (slot 3) (revV false (slot 4))) argN)))))))
theorem tt_way_between (a0 a1 a2 : PyData) : Jd [some (.im a0), some (.im a1), some (.im a2), none, none] G_way_between (T_way_between a0 a1 a2) pR := by
  unfold T_way_between G_way_between
  exact (r_seq (s_setM 3 (m_lst (a_cons' (e_slot 1 rfl) a_nil'))) fun v3 =>
  (r_seq (s_setM 4 (m_lst (a_cons' (e_slot 2 rfl) a_nil'))) fun v6 =>
  (r_seq (s_whl (h := fun (s : List PyData × List PyData) => [some (.im a0), some (.im a1), some (.im a2), some (.mt s.1), some (.mt s.2)]) 100 (v3, v6) (.keep (.keep (.keep (.keep (.keep .nil))))) (fun s7 => (u_bin op_eqn' (e_binS op_ix' 3 rfl (e_w (e_neg (e_con (PyData.int 1)))) rfl) (e_w (e_binS op_ix' 4 rfl (e_w (e_neg (e_con (PyData.int 1)))) rfl)))) (fun s7 => ((n_end (fun (s44 : List PyData × List PyData) => (s44.1, s44.2)) (q_if (P := pN fun (s : List PyData × List PyData) => [some (.im a0), some (.im a1), some (.im a2), some (.mt s.1), some (.mt s.2)]) (u_bin op_cmp' (e_binS op_ix' 3 rfl (e_w (e_neg (e_con (PyData.int 1)))) rfl) (e_w (e_binS op_ix' 4 rfl (e_w (e_neg (e_con (PyData.int 1)))) rfl))) ((n_end (fun (s30 : List PyData) => (s30, s7.2)) (s_app 3 rfl (e_bin op_ix' (e_bin op_ix' (e_slot 0 rfl) (e_w (e_bin op_sub' (e_binS op_ix' 3 rfl (e_w (e_neg (e_con (PyData.int 1)))) rfl) (e_w (e_con (PyData.int 1)))))) (e_w (e_con (PyData.int 0)))) rfl) fun s30 => (.keep (.keep (.keep (.keep (.keep .nil))))))) ((n_end (fun (s41 : List PyData) => (s7.1, s41)) (s_app 4 rfl (e_bin op_ix' (e_bin op_ix' (e_slot 0 rfl) (e_w (e_bin op_sub' (e_binS op_ix' 4 rfl (e_w (e_neg (e_con (PyData.int 1)))) rfl) (e_w (e_con (PyData.int 1)))))) (e_w (e_con (PyData.int 0)))) rfl) fun s41 => (.keep (.keep (.keep (.keep (.keep .nil)))))))) fun s44 => (.keep (.keep (.keep (.keep (.keep .nil))))))))) fun v45 =>
  (r_seq (s_pop 4 rfl) fun v46 =>
  (r_ret (e_bl1 bl_tuple (e_w (e_binS op_add' 3 rfl (e_w (e_rev (e_slotW 4 rfl))) rfl))))))))
theorem same_way_between (ss : List Sv) (μ : Mu) (r : Res Sv) (hs : ss.length = 3) (wf : Wf μ) (e : F_way_between ss μ = some r) : ∃ r', G_way_between (ini 5 ss) μ = some r' ∧ Agree μ.length r r' :=
  same_T (n := 3) (fun ds h => by
    obtain ⟨a0, a1, a2, rfl⟩ := len3 h
    exact r_e (tt_way_between a0 a1 a2)) ss μ r hs wf e
noncomputable def T_distance_between (a0 a1 a2 : PyData) : S PyData :=
  ((((S.ret a0).bind fun x5 => ((S.ret a1).bind fun x3 => ((S.ret a2).bind fun x1 => (S.ret []).bind fun as2 => S.ret (x1 :: as2)).bind fun as4 => S.ret (x3 :: as4)).bind fun as6 => S.ret (x5 :: as6)).bind (u3 T_way_between)).bind fun v7 =>
  ((((S.ret v7).bind fun x12 => ((S.ret v7).bind fun x9 => ((S.ret (PyData.int 1)).bind fun x8 => S.lift ((toI x8).map some)).bind fun x10 => (S.ret none).bind fun x11 => S.lift (oSl x9 x10 x11)).bind fun x13 => S.lift (ziD x12 x13)).bind fun ds21 => (S.lift (szD ds21)).bind fun _ => (S.mapM (fun d14 => S.noEx (((S.lift (un2 d14)).bind fun p15 => (S.ret p15.1).bind fun s16 => (S.ret p15.2).bind fun s18 => S.ret (s16, s18)).bind fun s20 => (((S.ret a0).bind fun x27 => (((S.ret s20.1).bind fun x23 => (S.ret s20.2).bind fun x24 => S.lift (oMax2 x23 x24)).bind fun x25 => (S.ret (PyData.int 1)).bind fun x26 => S.lift (oSub x25 x26)).bind fun x28 => S.lift (oIx x27 x28)).bind fun x29 => (S.ret (PyData.int 1)).bind fun x30 => S.lift (oIx x29 x30)))) ds21).bind fun xs22 => S.ret (PyData.list xs22)).bind fun x31 => S.lift (oSum x31)))
noncomputable abbrev F_distance_between : List Sv → M Sv := liftF (u3 T_distance_between)
noncomputable def G_distance_between : Rho → M Out :=
  (gSeq (gSet 3 (callF F_way_between 3 (argC (slot 0) (argC (slot 1) (argC (slot 2) argN)))))
  (gRet (callV bSum (argC (lcV false [4, 5] (zipW (slot 3) (slV false (slot 3) (aPart (con (.int 1))) noPart)) (gTp 2 (gsCons (gNm 4) (gsCons (gNm 5) gsNil))) yes (bin pIx (bin pIx (slot 0) (bin pSub (callV bMax2 (argC (slot 4) (argC (slot 5) argN))) (con (.int 1)))) (con (.int 1)))) argN))))
theorem tt_distance_between (a0 a1 a2 : PyData) : Jd [some (.im a0), some (.im a1), some (.im a2), none, none, none] G_distance_between (T_distance_between a0 a1 a2) pR := by
  unfold T_distance_between G_distance_between
  exact (r_seq (s_setI 3 (e_call (a_cons' (e_slot 0 rfl) (a_cons' (e_slot 1 rfl) (a_cons' (e_slot 2 rfl) a_nil'))))) fun v7 =>
  (r_ret (e_bl1 bl_sum (e_w (e_lc (u := fun d14 => ((S.lift (un2 d14)).bind fun p15 => (S.ret p15.1).bind fun s16 => (S.ret p15.2).bind fun s18 => S.ret (s16, s18))) (e' := fun (s : ((PyData) × (PyData))) => [some (.im a0), some (.im a1), some (.im a2), some (.im v7), some (.im s.1), some (.im s.2)]) [4, 5] (w_zip (e_slot 3 rfl) (e_sl (e_slot 3 rfl) (p_so (e_con (PyData.int 1))) p_no)) rfl (fun d14 => (tc_tp2 (e1 := fun (s16 : PyData) => [some (.im a0), some (.im a1), some (.im a2), some (.im v7), some (.im s16), none]) (e2 := fun (s16 : PyData) (s18 : PyData) => [some (.im a0), some (.im a1), some (.im a2), some (.im v7), some (.im s16), some (.im s18)]) (u1 := fun d17 => (S.ret d17)) (u2 := fun d19 => (S.ret d19)) d14 (fun d17 => (tc_nm 4 d17 rfl)) (fun s16 d19 => (tc_nm 5 d19 rfl)))) (fun s20 => (e_bin op_ix' (e_bin op_ix' (e_slot 0 rfl) (e_w (e_bin op_sub' (e_bl2 bl_max2 (e_slot 4 rfl) (e_slot 5 rfl)) (e_w (e_con (PyData.int 1)))))) (e_w (e_con (PyData.int 1))))))))))
theorem same_distance_between (ss : List Sv) (μ : Mu) (r : Res Sv) (hs : ss.length = 3) (wf : Wf μ) (e : F_distance_between ss μ = some r) : ∃ r', G_distance_between (ini 6 ss) μ = some r' ∧ Agree μ.length r r' :=
  same_T (n := 3) (fun ds h => by
    obtain ⟨a0, a1, a2, rfl⟩ := len3 h
    exact r_e (tt_distance_between a0 a1 a2)) ss μ r hs wf e
end Pf

set_option maxHeartbeats 1000000
namespace Pf
open PySem PySem.Spec PyProof.Rows L2
/-! ### indexing -/
theorem atI_last' {α : Type} (xs : List α) (x : α) : atI (xs ++ [x]) (-1) = some x := atI_back xs x
theorem oIx_lastL (xs : List PyData) (x : PyData) : oIx (.list (xs ++ [x])) (.int (-1)) = some x := atI_back xs x
theorem oIx_t {α : Type} {f : α → PyData} {xs : List α} {k : Nat} {x : α} (h : xs[k]? = some x) : oIx (.tuple (xs.map f)) (.int (k : Int)) = some (f x) := atI_map (atI_nat h)
theorem oIx_l {α : Type} {f : α → PyData} {xs : List α} {k : Nat} {x : α} (h : xs[k]? = some x) : oIx (.list (xs.map f)) (.int (k : Int)) = some (f x) := atI_map (atI_nat h)
theorem oIx_row {rows : List (Int × Int)} {m : Nat} {r : Int × Int} (h0 : 0 < m) (e : rows[m - 1]? = some r) : oIx (treeD rows) (.int ((m : Int) - 1)) = some (rowD r) := by
  have := oIx_t (f := rowD) e
  rw [show ((m - 1 : Nat) : Int) = (m : Int) - 1 by omega] at this
  exact this
theorem oIx_row0 (r : Int × Int) : oIx (rowD r) (.int 0) = some (.int r.1) := rfl
theorem oIx_row1 (r : Int × Int) : oIx (rowD r) (.int 1) = some (.int r.2) := rfl
theorem oNeg1 : oNeg (.int 1) = some (.int (-1)) := rfl
theorem oSub_i (i j : Int) : oSub (.int i) (.int j) = some (.int (i - j)) := rfl
theorem oAdd_i (i j : Int) : oAdd (.int i) (.int j) = some (.int (i + j)) := rfl
theorem cNe_i (i j : Int) : cEqn true (.int i) (.int j) = some (!decide (i = j)) := by
  show some (Bool.xor true _) = _
  rw [Bool.true_xor]
theorem cEq_i (i j : Int) : cEqn false (.int i) (.int j) = some (decide (i = j)) := by
  show some (Bool.xor false _) = _
  rw [Bool.false_xor]
theorem cGt_i (i j : Int) : cGt (.int i) (.int j) = some (decide (j < i)) := rfl
theorem cLt_i (i j : Int) : cLt (.int i) (.int j) = some (decide (i < j)) := rfl
theorem cLe_i (i j : Int) : cLe (.int i) (.int j) = some (decide (i ≤ j)) := rfl
theorem cGe_i (i j : Int) : cGe (.int i) (.int j) = some (decide (j ≤ i)) := rfl
theorem appD_ok {ds : List PyData} {d : PyData} (h : ds.length + 1 ≤ 1000000) : appD ds d = some (ds ++ [d]) := if_pos h
theorem popD_ok (ds : List PyData) (d : PyData) : popD (ds ++ [d]) = some ds := by
  unfold popD
  rw [if_neg (by simp)]
  simp
theorem oAdd_l {xs ys : List PyData} (h : xs.length + ys.length ≤ 1000000) : oAdd (.list xs) (.list ys) = some (.list (xs ++ ys)) := if_pos h
theorem oAdd_t {xs ys : List PyData} (h : xs.length + ys.length ≤ 1000000) : oAdd (.tuple xs) (.tuple ys) = some (.tuple (xs ++ ys)) := if_pos h
theorem szD_ok {ds : List PyData} (h : ds.length ≤ 1000000) : szD ds = some ⟨⟩ := if_pos (show szOk ds.length = true from decide_eq_true h)
theorem rngD_ok {n : Nat} (h : n ≤ 1000000000) : rngD (.int (n : Int)) = some (fromTo 0 n) := by
  show (if big62 (n : Int) = true then some (fromTo 0 (n : Int).toNat) else none) = _
  rw [if_pos (big62_small (by omega) (by omega)), Int.toNat_natCast]
theorem fromTo_map (n : Nat) : fromTo 0 n = (List.range n).map mkD := by
  unfold fromTo
  refine List.map_congr_left fun k _ => ?_
  show PyData.int (0 + (k : Int)) = .int k
  rw [Int.zero_add]
theorem S.bind_ex {α β : Type} {m : S α} {u : α → S β} {r : S β} {P : α → Prop} (h : ∃ a, m = S.ret a ∧ P a) (k : ∀ a, P a → u a = r) : m.bind u = r := by
  obtain ⟨a, e, p⟩ := h
  rw [e]
  exact k a p
theorem S.bind_eq {α β : Type} {m : S α} {u : α → S β} {r : S β} {a : α} (h : m = S.ret a) (k : u a = r) : m.bind u = r := by
  rw [h]
  exact k
theorem S.foldM_ex {α σ : Type} {f : σ → α → S σ} (I : Nat → σ → Prop) {xs : List α} {s : σ} (h0 : I 0 s) (st : ∀ (i : Nat) (s : σ) (x : α), I i s → xs[i]? = some x → ∃ s', f s x = S.ret s' ∧ I (i + 1) s') : ∃ s', S.foldM f xs s = S.ret s' ∧ I xs.length s' := by
  have := S.foldM_inv (f := f) I (xs := xs) (s := s) (k := 0) h0 fun i s x hi hx => by
    rw [Nat.zero_add] at hi ⊢
    exact st i s x hi hx
  rwa [Nat.zero_add] at this
theorem S.foldM_bind {α σ β : Type} {f : σ → α → S σ} (I : Nat → σ → Prop) {xs : List α} {s : σ} {u : σ → S β} {r : S β} (h0 : I 0 s) (st : ∀ (i : Nat) (s : σ) (x : α), I i s → xs[i]? = some x → ∃ s', f s x = S.ret s' ∧ I (i + 1) s') (k : ∀ s, I xs.length s → u s = r) : (S.foldM f xs s).bind u = r := S.bind_ex (S.foldM_ex I h0 st) k
theorem S.foldM_eq {α σ : Type} {f : σ → α → S σ} (I : Nat → σ → Prop) {xs : List α} {s r : σ} (h0 : I 0 s) (st : ∀ (i : Nat) (s : σ) (x : α), I i s → xs[i]? = some x → ∃ s', f s x = S.ret s' ∧ I (i + 1) s') (k : ∀ s, I xs.length s → s = r) : S.foldM f xs s = S.ret r := by
  obtain ⟨s', e, h⟩ := S.foldM_ex (f := f) I h0 st
  rw [e, k s' h]
theorem S.foldM_to {α σ : Type} {f : σ → α → S σ} (I : Nat → σ → Prop) {xs : List α} {s : σ} {P : σ → Prop} (h0 : I 0 s) (st : ∀ (i : Nat) (s : σ) (x : α), I i s → xs[i]? = some x → ∃ s', f s x = S.ret s' ∧ I (i + 1) s') (k : ∀ s, I xs.length s → P s) : ∃ s', S.foldM f xs s = S.ret s' ∧ P s' := by
  obtain ⟨s', e, h⟩ := S.foldM_ex (f := f) I h0 st
  exact ⟨s', e, k s' h⟩
def wayD (w : List Nat) : PyData := .tuple (w.map mkD)
theorem un2_t (a b : PyData) : un2 (.tuple [a, b]) = some (a, b) := rfl
theorem un3_t (a b c : PyData) : un3 (.tuple [a, b, c]) = some (a, b, c) := rfl
/-! ### ways -/
theorem itW_way {rows : List (Int × Int)} (ok : TreeOk rows) {c : List PyData × List PyData → S Bool} {f : List PyData × List PyData → S (List PyData × List PyData)}
    (hc : ∀ (P T : List Nat) (m k : Nat), c ((P ++ [m]).map mkD, (T ++ [k]).map mkD) = S.ret (!decide ((m : Int) = (k : Int))))
    (hf : ∀ (P T : List Nat) (m k : Nat), m ≤ rows.length → k ≤ rows.length → m ≠ k → P.length ≤ 1000 → T.length ≤ 1000 → f ((P ++ [m]).map mkD, (T ++ [k]).map mkD) = S.ret (if k < m then ((P ++ [m] ++ [par rows m]).map mkD, (T ++ [k]).map mkD) else ((P ++ [m]).map mkD, (T ++ [k] ++ [par rows k]).map mkD))) :
    ∀ (n : Nat) (P T : List Nat) (m k : Nat), m + k < n → m ≤ rows.length → k ≤ rows.length → P.length + n ≤ 1000 → T.length + n ≤ 1000 →
    ∃ s, S.itW c f n ((P ++ [m]).map mkD, (T ++ [k]).map mkD) = S.ret s ∧ ∃ P' T' z, s = ((P' ++ [z]).map mkD, (T' ++ [z]).map mkD) ∧ P' ++ [z] ++ T'.reverse = P ++ way rows m k ++ T.reverse := by
  intro n
  induction n with
  | zero => intro P T m k h; omega
  | succ n ih =>
    intro P T m k h hm hk hP hT
    unfold S.itW
    rw [hc, S.ret_bind]
    by_cases e : m = k
    · subst e
      rw [decide_eq_true rfl]
      exact ⟨_, rfl, P, T, m, rfl, by rw [way_eq ok]⟩
    · rw [decide_eq_false (show ¬ (m : Int) = (k : Int) by omega)]
      show ∃ s, (if true = true then _ else _) = _ ∧ _
      rw [if_pos rfl, hf P T m k hm hk e (by omega) (by omega), S.ret_bind]
      by_cases l : k < m
      · rw [if_pos l]
        obtain ⟨r, _, _, _, hp, _⟩ := row_of ok (m := m) (by omega) hm
        obtain ⟨s, e1, P', T', z, e0, e2⟩ := ih (P ++ [m]) T (par rows m) k (by omega) (by omega) hk (by rw [List.length_append, List.length_singleton]; omega) (by omega)
        refine ⟨s, e1, P', T', z, e0, ?_⟩
        rw [e2, way_gt ok l hm]
        simp
      · rw [if_neg l]
        obtain ⟨r, _, _, _, hp, _⟩ := row_of ok (m := k) (by omega) hk
        obtain ⟨s, e1, P', T', z, e0, e2⟩ := ih P (T ++ [k]) m (par rows k) (by omega) hm (by omega) (by omega) (by rw [List.length_append, List.length_singleton]; omega)
        refine ⟨s, e1, P', T', z, e0, ?_⟩
        rw [e2, way_lt ok (show m < k by omega) hk]
        simp
theorem oIx_lastM (P : List Nat) (m : Nat) : oIx (.list ((P ++ [m]).map mkD)) (.int (-1)) = some (mkD m) := by
  rw [List.map_append]
  exact oIx_lastL _ _
structure TreeG (rows : List (Int × Int)) : Prop where
  ok : TreeOk rows
  len : rows.length ≤ 11
theorem T_way {rows : List (Int × Int)} (g : TreeG rows) {a b : Nat} (ha : a ≤ rows.length) (hb : b ≤ rows.length) : T_way_between (treeD rows) (mkD a) (mkD b) = S.ret (wayD (way rows a b)) := by
  have ok := g.ok
  have hl := g.len
  unfold T_way_between
  simp only [S.ret_bind]
  refine S.bind_ex (itW_way ok (fun P T m k => ?_) (fun P T m k hm hk hne hP hT => ?_) 100 [] [] a b (by omega) ha hb (by simp) (by simp)) ?_
  · simp only [oNeg1, S.lift_some, S.ret_bind, oIx_lastM]
    exact congrArg S.lift (cNe_i _ _)
  · simp only [oNeg1, S.lift_some, S.ret_bind, oIx_lastM]
    have e0 : cGt (mkD m) (mkD k) = some (decide (k < m)) := by
      show some (decide ((k : Int) < (m : Int))) = _
      simp
    rw [e0, S.lift_some, S.ret_bind]
    by_cases l : k < m
    · obtain ⟨r, e, hp, _⟩ := row_of ok (m := m) (by omega) hm
      rw [decide_eq_true l, if_pos rfl, if_pos l]
      simp only [mkD, oSub_i, S.lift_some, S.ret_bind, oIx_row (show 0 < m by omega) e, oIx_row0]
      rw [appD_ok (by rw [List.length_map, List.length_append, List.length_singleton]; omega), hp]
      simp only [S.lift_some, S.ret_bind, List.map_append, List.map_cons, List.map_nil, mkD]
    · obtain ⟨r, e, hp, _⟩ := row_of ok (m := k) (by omega) hk
      rw [decide_eq_false l, if_neg Bool.false_ne_true, if_neg l]
      simp only [mkD, oSub_i, S.lift_some, S.ret_bind, oIx_row (show 0 < k by omega) e, oIx_row0]
      rw [appD_ok (by rw [List.length_map, List.length_append, List.length_singleton]; omega), hp]
      simp only [S.lift_some, S.ret_bind, List.map_append, List.map_cons, List.map_nil, mkD]
  · rintro s ⟨P', T', z, rfl, e2⟩
    have hw := (way_len ok _ a b (Nat.lt_succ_self _) ha hb).1
    have hlen := congrArg List.length e2
    simp at hlen
    have ep : popD ((T' ++ [z]).map mkD) = some (T'.map mkD) := by
      rw [List.map_append]
      exact popD_ok _ _
    dsimp only
    rw [ep, S.lift_some, S.ret_bind]
    have er : oRev (.list (T'.map mkD)) = some (.list (T'.reverse.map mkD)) := by
      rw [List.map_reverse]
      rfl
    rw [er, S.lift_some, S.ret_bind, oAdd_l (by simp; omega), S.lift_some, S.ret_bind, ← List.map_append, e2]
    simp [oTuple, wayD, S.lift_some]
/-! ### distances -/
theorem T_dist {rows : List (Int × Int)} (g : TreeG rows) {a b : Nat} (ha : a ≤ rows.length) (hb : b ≤ rows.length) : T_distance_between (treeD rows) (mkD a) (mkD b) = S.ret (.int (dist rows a b)) := by
  have ok := g.ok
  have hl := g.len
  unfold T_distance_between
  simp only [S.ret_bind, u3, T_way g ha hb]
  obtain ⟨wp, ws⟩ := way_pairs ok _ a b (Nat.lt_succ_self _) ha hb
  have hw := (way_len ok _ a b (Nat.lt_succ_self _) ha hb).1
  have e1 : oSl (wayD (way rows a b)) (some 1) none = some (.tuple (((way rows a b).map mkD).drop 1)) := by
    show some (PyData.tuple (cutL ((way rows a b).map mkD) (some 1) none)) = _
    rw [cut_from1]
  have e2 : ziD (wayD (way rows a b)) (.tuple (((way rows a b).map mkD).drop 1)) = some ((pairs (way rows a b)).map pairD) := by
    show some (zipD ((way rows a b).map mkD) (((way rows a b).map mkD).drop 1)) = _
    rw [zip_pairs]
  simp only [toI, Option.map, S.lift_some, S.ret_bind, e1, e2]
  rw [szD_ok (by rw [List.length_map]; have := pairs_len (way rows a b); omega), S.lift_some, S.ret_bind, S.mapM_map, S.mapM_ret (g := fun p => PyData.int (lnR rows (max p.1 p.2)))]
  · have hs : asInts ((pairs (way rows a b)).map fun p => PyData.int (lnR rows (max p.1 p.2))) = some ((pairs (way rows a b)).map fun p => lnR rows (max p.1 p.2)) := by
      have := ints_map ((pairs (way rows a b)).map fun p => lnR rows (max p.1 p.2))
      rw [List.map_map] at this
      exact this
    simp only [S.ret_bind, oSum, hs, Option.map, S.lift_some]
    rw [← ws]
    rfl
  · intro p hp
    obtain ⟨p1, p2⟩ := wp p hp
    obtain ⟨r, e, _, hr, _⟩ := row_of ok p1 p2
    have hm : oMax2 (mkD p.1) (mkD p.2) = some (.int ((max p.1 p.2 : Nat) : Int)) := by
      show some (PyData.int (if (p.2 : Int) > (p.1 : Int) then (p.2 : Int) else (p.1 : Int))) = _
      have : (if (p.2 : Int) > (p.1 : Int) then (p.2 : Int) else (p.1 : Int)) = ((max p.1 p.2 : Nat) : Int) := by split <;> omega
      rw [this]
    simp only [pairD, un2, S.lift_some, S.ret_bind, hm, oSub_i, oIx_row p1 e, oIx_row1, S.noEx_ret, hr]
end Pf

set_option maxHeartbeats 1000000
namespace Pf
open PySem PySem.Spec PyProof.Rows L2
/-! ### windows -/
def lastD : Option Int → PyData
  | some i => .int i
  | none => .none
def winD (w : Int × Option Int) : PyData := .tuple [.int w.1, lastD w.2]
def winsD (ws : List (Int × Option Int)) : PyData := .tuple (ws.map winD)
def wAt (ws : List (Int × Option Int)) (i : Nat) : Int × Option Int := (ws[i]?).getD (0, none)
theorem wAt_get {ws : List (Int × Option Int)} {i : Nat} (h : i < ws.length) : ws[i]? = some (wAt ws i) := by
  unfold wAt
  rw [List.getElem?_eq_getElem h]
  rfl
theorem oIx_win {ws : List (Int × Option Int)} {i : Nat} (h : i < ws.length) : oIx (winsD ws) (mkD i) = some (winD (wAt ws i)) := oIx_t (wAt_get h)
theorem oIx_w0 (w : Int × Option Int) : oIx (winD w) (.int 0) = some (.int w.1) := rfl
theorem oIx_w1 (w : Int × Option Int) : oIx (winD w) (.int 1) = some (lastD w.2) := rfl
/-- one, other exclude all tables -/
def exclB (far : Nat → Nat → Int) (ws : List (Int × Option Int)) (i j : Nat) : Bool := match (wAt ws j).2 with
  | none => false
  | some last => decide (last + far i j < (wAt ws i).1)
theorem cIsN_none (n : Bool) : cIs n .none .none = some (Bool.xor n true) := rfl
theorem cIsN_int (n : Bool) (i : Int) : cIs n (.int i) .none = some (Bool.xor n false) := rfl
theorem toB_b (b : Bool) : toB (.bool b) = some b := rfl
theorem asB2_b (b : Bool) : asB2 (some b) = some (.bool b) := rfl
/-! ### a search that returns -/
theorem foldF_find {α : Type} {xs : List α} {enc : α → PyData} {f : PUnit → PyData → S (Fl PUnit)} {g : α → Option PyData} (h : ∀ x ∈ xs, f ⟨⟩ (enc x) = S.ret (match g x with | some v => .rt v | none => .nx ⟨⟩)) :
    S.foldF f (xs.map enc) ⟨⟩ = S.ret (match xs.findSome? g with | some v => .rt v | none => .nx ⟨⟩) := by
  induction xs with
  | nil => rfl
  | cons x xs ih =>
    rw [List.map_cons]
    unfold S.foldF
    rw [h x List.mem_cons_self, S.ret_bind, List.findSome?_cons]
    cases e : g x with
    | some v => rfl
    | none => exact ih fun y hy => h y (List.mem_cons_of_mem _ hy)
def pairOD (p : Nat × Nat) : PyData := .tuple [mkD p.1, mkD p.2]
def findPr (n : Nat) (c : Nat → Nat → Bool) : Option (Nat × Nat) := (List.range n).findSome? fun i => (List.range n).findSome? fun j => if c i j = true then some (i, j) else none
def findP (far : Nat → Nat → Int) (ws : List (Int × Option Int)) : Option (Nat × Nat) := findPr ws.length (exclB far ws)
def optD : Option PyData → PyData
  | some d => d
  | none => .none
theorem findSome_map {α β γ : Type} (f : α → Option β) (g : β → γ) : ∀ xs : List α, xs.findSome? (fun x => (f x).map g) = (xs.findSome? f).map g
  | [] => rfl
  | x :: xs => by
    rw [List.findSome?_cons, List.findSome?_cons, findSome_map f g xs]
    cases f x <;> rfl
theorem findSome_congr {α β : Type} {f g : α → Option β} : ∀ {xs : List α}, (∀ x ∈ xs, f x = g x) → xs.findSome? f = xs.findSome? g
  | [], _ => rfl
  | x :: xs, h => by
    rw [List.findSome?_cons, List.findSome?_cons, h x List.mem_cons_self, findSome_congr fun y hy => h y (List.mem_cons_of_mem _ hy)]
theorem ite_b {α : Type} (b : Bool) (x y : α) : (if b = true then some x else none).map (fun _ => y) = if b = true then some y else none := by cases b <;> rfl
theorem oLen_wins (ws : List (Int × Option Int)) : oLen (winsD ws) = some (.int (ws.length : Nat)) := by
  show some (PyData.int ((ws.map winD).length : Nat)) = _
  rw [List.length_map]
def flO (o : Option PyData) : Fl PUnit := match o with
  | some v => .rt v
  | none => .nx ⟨⟩
theorem foldF_find' {α : Type} {xs : List α} {enc : α → PyData} {f : PUnit → PyData → S (Fl PUnit)} (g : α → Option PyData) (h : ∀ x ∈ xs, f ⟨⟩ (enc x) = S.ret (flO (g x))) : S.foldF f (xs.map enc) ⟨⟩ = S.ret (flO (xs.findSome? g)) := foldF_find h
end Pf

set_option maxHeartbeats 1000000
namespace Pf
open PySem PySem.Spec PyProof.Rows L2
/-! ### what draws can give -/
/-- which decks a law has -/
class Fam where
  good : Dk → Prop
section
variable [Fam]
def Can {α : Type} (n : Nat) (m : S α) (P : α → Prop) : Prop := ∀ k, Fam.good k → k.n + n ≤ 10000000 → ∃ a k', m k = some (.ok a, k') ∧ P a ∧ Fam.good k' ∧ k.n ≤ k'.n ∧ k'.n ≤ k.n + n
section
variable {α β σ : Type} {n n' : Nat} {m : S α} {P Q : α → Prop} {R : β → Prop}
theorem Can.ret {a : α} (h : P a) : Can 0 (S.ret a) P := fun k g _ => ⟨a, k, rfl, h, g, Int.le_refl _, by omega⟩
theorem Can.bind {f : α → S β} (h : Can n m P) (hf : ∀ a, P a → Can n' (f a) R) : Can (n + n') (m.bind f) R := fun k g hb => by
  obtain ⟨a, k1, e1, p, g1, l1, u1⟩ := h k g (by omega)
  obtain ⟨b, k2, e2, q, g2, l2, u2⟩ := hf a p k1 g1 (by omega)
  refine ⟨b, k2, ?_, q, g2, by omega, by omega⟩
  unfold S.bind
  rw [e1]
  exact e2
theorem Can.up (h : Can n m P) (hn : n ≤ n') : Can n' m P := fun k g hb => by
  obtain ⟨a, k1, e1, p, g1, l1, u1⟩ := h k g (by omega)
  exact ⟨a, k1, e1, p, g1, l1, by omega⟩
theorem Can.imp (h : Can n m P) (hp : ∀ a, P a → Q a) : Can n m Q := fun k g hb => by
  obtain ⟨a, k1, e1, p, g1, l1, u1⟩ := h k g hb
  exact ⟨a, k1, e1, hp a p, g1, l1, u1⟩
theorem Can.eq {m' : S α} (h : Can n m' P) (e : m = m') : Can n m P := e ▸ h
theorem Can.noEx (h : Can n m P) : Can n (S.noEx m) P := fun k g hb => by
  obtain ⟨a, k1, e1, p, g1, l1, u1⟩ := h k g hb
  refine ⟨a, k1, ?_, p, g1, l1, u1⟩
  unfold S.noEx
  rw [e1]
theorem Can.mapM {f : α → S β} {P : Nat → β → Prop} : ∀ {xs : List α} (j : Nat), (∀ (i : Nat) (x : α), xs[i]? = some x → Can n (f x) (P (j + i))) → Can (n * xs.length) (S.mapM f xs) fun ys => ys.length = xs.length ∧ ∀ (i : Nat) (y : β), ys[i]? = some y → P (j + i) y
  | [], j, _ => Can.ret ⟨rfl, fun i y h => by simp at h⟩
  | x :: xs, j, h => by
    have h0 := h 0 x rfl
    have ih := Can.mapM (xs := xs) (P := P) (f := f) (j + 1) fun i y e => by
      have := h (i + 1) y (by simpa using e)
      rw [show j + 1 + i = j + (i + 1) by omega]
      exact this
    have : n * (x :: xs).length = n + (n * xs.length + 0) := by rw [List.length_cons, Nat.mul_add]; omega
    rw [this]
    unfold S.mapM
    refine h0.bind fun b hb => ih.bind fun bs hbs => Can.ret ⟨by rw [List.length_cons, List.length_cons, hbs.1], fun i y e => ?_⟩
    cases i with
    | zero =>
      simp at e
      subst e
      exact hb
    | succ i =>
      have := hbs.2 i y (by simpa using e)
      rw [show j + (i + 1) = j + 1 + i by omega]
      exact this
theorem Can.foldM {f : σ → α → S σ} (I : Nat → σ → Prop) : ∀ {xs : List α} {s : σ} (j : Nat), I j s → (∀ (i : Nat) (s : σ) (x : α), I (j + i) s → xs[i]? = some x → Can n (f s x) (I (j + i + 1))) → Can (n * xs.length) (S.foldM f xs s) (I (j + xs.length))
  | [], s, j, h, _ => Can.ret h
  | x :: xs, s, j, h, st => by
    have h0 := st 0 s x h rfl
    have : n * (x :: xs).length = n + n * xs.length := by rw [List.length_cons, Nat.mul_add]; omega
    rw [this, show j + (x :: xs).length = j + 1 + xs.length by rw [List.length_cons]; omega]
    unfold S.foldM
    refine h0.bind fun s1 h1 => Can.foldM I (xs := xs) (j + 1) h1 fun i s y hi e => ?_
    rw [show j + 1 + i = j + (i + 1) by omega] at hi ⊢
    exact st (i + 1) s y hi (by simpa using e)
def isNx (I : σ → Prop) : Fl σ → Prop
  | .nx s => I s
  | _ => False
theorem Can.foldF {f : σ → PyData → S (Fl σ)} (I : Nat → σ → Prop) : ∀ {xs : List PyData} {s : σ} (j : Nat), I j s → (∀ (i : Nat) (s : σ) (x : PyData), I (j + i) s → xs[i]? = some x → Can n (f s x) (isNx (I (j + i + 1)))) → Can (n * xs.length) (S.foldF f xs s) (isNx (I (j + xs.length)))
  | [], s, j, h, _ => Can.ret h
  | x :: xs, s, j, h, st => by
    have h0 := st 0 s x h rfl
    have : n * (x :: xs).length = n + n * xs.length := by rw [List.length_cons, Nat.mul_add]; omega
    rw [this, show j + (x :: xs).length = j + 1 + xs.length by rw [List.length_cons]; omega]
    unfold S.foldF
    refine h0.bind fun o h1 => ?_
    cases o with
    | nx s1 =>
      refine Can.foldF I (xs := xs) (j + 1) h1 fun i s y hi e => ?_
      rw [show j + 1 + i = j + (i + 1) by omega] at hi ⊢
      exact st (i + 1) s y hi (by simpa using e)
    | _ => exact h1.elim
end
end
theorem oIx_mem {xs : List PyData} {i : Int} (h0 : 0 ≤ i) (h1 : i < xs.length) : ∃ x, x ∈ xs ∧ oIx (.list xs) (.int i) = some x := atI_mem h0 h1
theorem oPow_k {i j : Int} (h : 0 ≤ j ∧ j ≤ 1000000 ∧ i.natAbs < 2 ^ 64) : oPow (.int i) (.int j) = some (.int (i ^ j.toNat)) := if_pos h
theorem p106 : oPow (.int 10) (.int 6) = some (.int 1000000) := by
  rw [oPow_k (by decide)]
  rfl
theorem p108 : oPow (.int 10) (.int 8) = some (.int 100000000) := by
  rw [oPow_k (by decide)]
  rfl
theorem p109 : oPow (.int 10) (.int 9) = some (.int 1000000000) := by
  rw [oPow_k (by decide)]
  rfl
theorem p1012 : oPow (.int 10) (.int 12) = some (.int 1000000000000) := by
  rw [oPow_k (by decide)]
  rfl
theorem oTuple_l (ds : List PyData) : oTuple (.list ds) = some (.tuple ds) := rfl
end Pf

set_option maxHeartbeats 1000000
namespace Pf
open PySem PySem.Spec PyProof.Rows L2
/-! ### what is shown -/
theorem okRepr {d : PyData} {n k : Nat} (h : Fine d n k) (hk : k ≤ 10) (hn : n ≤ 1000000) : oRepr d = some (.str d.shown) := if_pos ((h.nice hk).ok hn)
theorem Fine.non : Fine .none 44 0 := ⟨by simp only [lfs], by simp only [PyData.hasDict], by simp only [PyData.depth]; exact Nat.le_refl _, by simp only [wt]; decide⟩
theorem Fine.bool (b : Bool) : Fine (.bool b) 44 0 := ⟨by simp only [lfs], by simp only [PyData.hasDict], by simp only [PyData.depth]; exact Nat.le_refl _, by simp only [wt]; decide⟩
theorem fine_int {i : Int} (h : -1000000000000 ≤ i ∧ i ≤ 1000000000000) : Fine (.int i) 44 0 := .int (Nat.lt_of_le_of_lt (show i.natAbs ≤ 1000000000000 by omega) (by decide +kernel))
theorem fine_win {w : Int × Option Int} (h1 : -1000000000000 ≤ w.1 ∧ w.1 ≤ 1000000000000) (h2 : ∀ l, w.2 = some l → -1000000000000 ≤ l ∧ l ≤ 1000000000000) : Fine (winD w) 95 1 := by
  refine (Fine.tuple (n := 44) (k := 0) (ds := [.int w.1, lastD w.2]) fun e he => ?_).up (by show (44 + 2) * 2 + 3 ≤ 95; decide) (Nat.le_refl _)
  rcases List.mem_cons.mp he with rfl | he
  · exact fine_int h1
  · rw [List.mem_singleton.mp he]
    cases e : w.2 with
    | none => exact Fine.non
    | some i => exact fine_int (h2 i e)
theorem fine_wins {ws : List (Int × Option Int)} (hl : ws.length ≤ 12) (h : ∀ w ∈ ws, (-1000000000000 ≤ w.1 ∧ w.1 ≤ 1000000000000) ∧ ∀ l, w.2 = some l → -1000000000000 ≤ l ∧ l ≤ 1000000000000) : Fine (winsD ws) 2000 2 := by
  refine (Fine.tuple (n := 95) (k := 1) fun d hd => ?_).up ?_ (Nat.le_refl _)
  · obtain ⟨w, hw, rfl⟩ := List.mem_map.mp hd
    exact fine_win (h w hw).1 (h w hw).2
  · rw [List.length_map]
    omega
theorem Fine.pair {a b : PyData} {n k : Nat} (ha : Fine a n k) (hb : Fine b n k) : Fine (.list [a, b]) ((n + 2) * 2 + 2) (k + 1) := Fine.list fun d hd => by
  rcases List.mem_cons.mp hd with rfl | hd
  · exact ha
  · rw [List.mem_singleton.mp hd]
    exact hb
theorem fine_pairO {o : Option (Nat × Nat)} (h : ∀ p, o = some p → p.1 ≤ 1000 ∧ p.2 ≤ 1000) : Fine (optD (o.map pairOD)) 100 1 := by
  cases o with
  | none => exact Fine.non.up (by decide) (by decide)
  | some p =>
    obtain ⟨h1, h2⟩ := h p rfl
    refine (Fine.tuple (n := 44) (k := 0) (ds := [mkD p.1, mkD p.2]) fun e he => ?_).up (by show (44 + 2) * 2 + 3 ≤ 100; decide) (Nat.le_refl _)
    rcases List.mem_cons.mp he with rfl | he
    · exact fine_int (by omega)
    · rw [List.mem_singleton.mp he]
      exact fine_int (by omega)
theorem findPr_some {n : Nat} {c : Nat → Nat → Bool} {p : Nat × Nat} (h : findPr n c = some p) : p.1 < n ∧ p.2 < n ∧ c p.1 p.2 = true := by
  unfold findPr at h
  obtain ⟨i, hi, h⟩ := List.exists_of_findSome?_eq_some h
  obtain ⟨j, hj, h⟩ := List.exists_of_findSome?_eq_some h
  split at h
  · rename_i hc
    cases h
    exact ⟨List.mem_range.mp hi, List.mem_range.mp hj, hc⟩
  · cases h
theorem cNe_s (x : Str) : cEqn true (.str x) (.str x) = some false := by
  show some (Bool.xor true (decide (x = x))) = _
  rw [decide_eq_true rfl]
  rfl
theorem cEq_s (x : Str) : cEqn false (.str x) (.str x) = some true := by
  show some (Bool.xor false (decide (x = x))) = _
  rw [decide_eq_true rfl]
  rfl
theorem decode {α : Type} {enc : α → PyData} {P : α → Prop} : ∀ {ds : List PyData}, (∀ (i : Nat) (y : PyData), ds[i]? = some y → ∃ w, P w ∧ y = enc w) → ∃ ws : List α, ds = ws.map enc ∧ ∀ w ∈ ws, P w
  | [], _ => ⟨[], rfl, fun w hw => nomatch hw⟩
  | d :: ds, h => by
    obtain ⟨w, hw, rfl⟩ := h 0 d rfl
    obtain ⟨ws, rfl, hs⟩ := decode (ds := ds) fun i y hy => h (i + 1) y (by simpa using hy)
    refine ⟨w :: ws, rfl, fun v hv => ?_⟩
    rcases List.mem_cons.mp hv with rfl | hv
    · exact hw
    · exact hs v hv
theorem oMod_k {i j : Int} (h : 0 < j) : oMod (.int i) (.int j) = some (.int (i % j)) := if_pos h
theorem oMul_k {i j : Int} (h : (small i || small j) = true) : oMul (.int i) (.int j) = some (.int (i * j)) := if_pos h
end Pf

set_option maxHeartbeats 1000000
namespace Pf
open PySem PySem.Spec PyProof.Rows L2
theorem law_start [Fam] {N n : Nat} (hN : 2 ≤ N) {Fd : List Sv → M Sv} {R : Rho → M Out} {T : S PyData} (hd : ∀ ns : List Int, ∃ k, Fd [.scr ns] [] = some (.ok (.ref 1) (dkO k)) ∧ Fam.good k ∧ k.n = 0)
    (tt : Jd (none :: some .dk :: List.replicate (N - 2) none) R T pR) (can : Can n T fun d => d = .bool true) (hn : n ≤ 10000000) (ns : List Int) :
    ∃ μ, strip N (gSeq (gSet 1 (callF Fd 1 (argC (slot 0) argN))) R) [.scr ns] [] = some (.ok (.dat (.bool true)) μ) := by
  obtain ⟨k, ek, gk, k0⟩ := hd ns
  have hi : ini N [.scr ns] = some (.scr ns) :: none :: List.replicate (N - 2) none := by
    unfold ini
    show some (Sv.scr ns) :: List.replicate (N - 1) none = _
    rw [show N - 1 = (N - 2) + 1 by omega, List.replicate_succ]
  have q1 : gSet 1 (callF Fd 1 (argC (slot 0) argN)) (ini N [.scr ns]) [] = some (.ok (.nx (some (.scr ns) :: some (.ref 1) :: List.replicate (N - 2) none)) (dkO k)) := by
    rw [hi]
    refine gset_at (s := .ref 1) ?_
    rw [call1_at (show slot 0 _ _ = some (.ok (.scr ns) []) from rfl)]
    exact ek
  have env : EnvR (none :: some .dk :: List.replicate (N - 2) none) k [] (some (.scr ns) :: some (.ref 1) :: List.replicate (N - 2) none) (dkO k) := by
    refine ⟨⟨[], by rw [List.append_nil, List.append_nil]⟩, by simp, fun i x e => ?_, fun i j xs ys t e1 e2 => ?_⟩
    · match i with
      | 0 => cases e
      | 1 =>
        cases e
        exact ⟨_, rfl, rfl⟩
      | i + 2 =>
        have := List.eq_of_mem_replicate (List.mem_of_getElem? (show (List.replicate (N - 2) (none : Option Sk))[i]? = some (some x) from e))
        cases this
    · match i with
      | 0 => cases e1
      | 1 => cases e1
      | i + 2 =>
        have := List.eq_of_mem_replicate (List.mem_of_getElem? (show (List.replicate (N - 2) (none : Option Sk))[i]? = some (some (.mt xs)) from e1))
        cases this
  obtain ⟨d, k', et, rfl, _⟩ := can k gk (by omega)
  obtain ⟨a, μ', w, rfl, _⟩ := tt k [] _ _ env _ _ et
  refine ⟨μ', strip_rt ?_⟩
  rw [seq_at q1]
  exact w
end Pf

set_option maxHeartbeats 1000000
namespace Pf
open PySem PySem.Spec PyProof.Rows L2
/-! ### the deck of the laws k09 to k17, k66 -/
structure dGood (k : Dk) : Prop where
  n0 : 0 ≤ k.n
  pos : ∀ c ∈ k.cs, 0 ≤ c
  len : k.cs.length ≤ 63
  ce : k.ce = none
theorem callVat {op : List Sv → M Sv} {Fs : Rho → M (List Sv)} {ρ : Rho} {μ μ1 : Mu} {ss : List Sv} (h : Fs ρ μ = some (.ok ss μ1)) : callV op Fs ρ μ = op ss μ1 := bind_ok h
def tailB (cell n L : Int) : Int := ((cell % 2147483563 + 104729 * n + 7) ^ 4 % 2147483629 / 8 + 31 * n) % L
def drawB (k : Dk) (L : Int) : Int × Dk :=
  match k.cs[((k.n + 1) % (k.cs.length : Int)).toNat]? with
  | none => (tailB 0 (k.n + 1) L, ⟨k.cs, k.n + 1, k.ce⟩)
  | some c => if 10 ^ 18 ≤ c then (c % L, ⟨k.cs.set ((k.n + 1) % (k.cs.length : Int)).toNat (c / L), k.n + 1, k.ce⟩) else (tailB c (k.n + 1) L, ⟨k.cs, k.n + 1, k.ce⟩)
open Classical in
noncomputable def TdrawB : PyData → S PyData
  | .int L => fun k => if 0 < L ∧ L < 1073741824 ∧ dGood k ∧ k.n < 10 ^ 12 then some (.ok (.int (drawB k L).1), (drawB k L).2) else none
  | _ => S.fail
def GdrawB : Rho → M Out :=
  (gSeq (gAsg (bin (pAdd false) (bin pIx (slot 0) (con (.int 1))) (con (.int 1))) (gSt (slot 0) (con (.int 1))))
  (gSeq (gSet 2 (bin pMod (bin pIx (slot 0) (con (.int 1))) (callV bMax2 (argC (con (.int 1)) (argC (callV bLen (argC (bin pIx (slot 0) (con (.int 0))) argN)) argN)))))
  (gSeq (gSet 3 (bin pIx (bin (pAdd false) (bin pIx (slot 0) (con (.int 0))) (lstV false (argC (con (.int 0)) argN))) (slot 2)))
  (gSeq (gIf (tst (bin pGe (slot 3) (bin pPow (con (.int 10)) (con (.int 18)))))
  (gSeq (gAsg (bin pFdiv (slot 3) (slot 1)) (gSt (bin pIx (slot 0) (con (.int 0))) (slot 2)))
  (gRet (bin pMod (slot 3) (slot 1))))
  gSkip)
  (gSeq (gSet 4 (bin pMod (bin pPow (bin (pAdd false) (bin (pAdd false) (bin pMod (slot 3) (con (.int 2147483563))) (bin (pMul false) (con (.int 104729)) (bin pIx (slot 0) (con (.int 1))))) (con (.int 7))) (con (.int 4))) (con (.int 2147483629))))
  (gRet (bin pMod (bin (pAdd false) (bin pFdiv (slot 4) (con (.int 8))) (bin (pMul false) (con (.int 31)) (bin pIx (slot 0) (con (.int 1))))) (slot 1))))))))
theorem max1 (cs : List Int) : (if (cs.length : Int) > 1 then (cs.length : Int) else 1) = if cs = [] then 1 else (cs.length : Int) := by
  by_cases h : cs = []
  · subst h
    rfl
  · rw [if_neg h]
    have : 0 < cs.length := List.length_pos_iff.mpr h
    split <;> omega
def atB (k : Dk) : Int := (k.n + 1) % (if k.cs = [] then 1 else (k.cs.length : Int))
theorem atB_lo (k : Dk) : 0 ≤ atB k := by
  unfold atB
  have : (if k.cs = [] then (1 : Int) else (k.cs.length : Int)) ≠ 0 := by
    split
    · decide
    · rename_i h
      have : 0 < k.cs.length := List.length_pos_iff.mpr h
      omega
  exact Int.emod_nonneg _ this
theorem atB_hi (k : Dk) : atB k < k.cs.length + 1 := by
  unfold atB
  by_cases h : k.cs = []
  · rw [if_pos h]
    have := Int.emod_lt_of_pos (k.n + 1) (show (0 : Int) < 1 by decide)
    omega
  · rw [if_neg h]
    have h0 : 0 < k.cs.length := List.length_pos_iff.mpr h
    have := Int.emod_lt_of_pos (k.n + 1) (show (0 : Int) < k.cs.length by omega)
    omega
theorem drawB_run {k : Dk} {L : Int} (R : Mu) (hL : 0 < L) (hL2 : L < 1073741824) (hk : dGood k) (hn : k.n < 10 ^ 12) (x y z : Option Sv) :
    GdrawB [some (.ref 1), some (svI L), x, y, z] (dkO k ++ R) = some (.ok (.rt (svI (drawB k L).1)) (dkO (drawB k L).2 ++ R)) := by
  obtain ⟨cs, n, ce⟩ := k
  obtain ⟨h0, hp, hlen, hce⟩ := hk
  replace hce : ce = none := hce
  subst hce
  replace hlen : cs.length ≤ 63 := hlen
  replace h0 : 0 ≤ n := h0
  replace hn : n < 10 ^ 12 := hn
  replace hp : ∀ c ∈ cs, 0 ≤ c := hp
  have cl : decide (0 < L) = true := decide_eq_true hL
  have cl2 : decide (L < 1073741824) = true := decide_eq_true hL2
  let a := atB ⟨cs, n, none⟩
  have ha0 : 0 ≤ a := atB_lo ⟨cs, n, none⟩
  have ha1 : a < cs.length + 1 := atB_hi ⟨cs, n, none⟩
  unfold GdrawB
  have s1 : (gAsg (bin (pAdd false) (bin pIx (slot 0) (con (.int 1))) (con (.int 1))) (gSt (slot 0) (con (.int 1)))) [some (.ref 1), some (svI L), x, y, z] (dkO ⟨cs, n, none⟩ ++ R) = some (.ok (.nx [some (.ref 1), some (svI L), x, y, z]) (dkO ⟨cs, n + 1, none⟩ ++ R)) := rfl
  rw [seq_at s1]
  have hm : 0 < (if cs = [] then (1 : Int) else (cs.length : Int)) := by
    split
    · decide
    · rename_i h
      have : 0 < cs.length := List.length_pos_iff.mpr h
      omega
  have s2 : (gSet 2 (bin pMod (bin pIx (slot 0) (con (.int 1))) (callV bMax2 (argC (con (.int 1)) (argC (callV bLen (argC (bin pIx (slot 0) (con (.int 0))) argN)) argN))))) [some (.ref 1), some (svI L), x, y, z] (dkO ⟨cs, n + 1, none⟩ ++ R) = some (.ok (.nx [some (.ref 1), some (svI L), some (svI a), y, z]) (dkO ⟨cs, n + 1, none⟩ ++ R)) := by
    refine gset_at (s := svI a) ?_
    have e1 : bin pIx (slot 0) (con (.int 1)) [some (.ref 1), some (svI L), x, y, z] (dkO ⟨cs, n + 1, none⟩ ++ R) = some (.ok (svI (n + 1)) (dkO ⟨cs, n + 1, none⟩ ++ R)) := rfl
    have e0 : bin pIx (slot 0) (con (.int 0)) [some (.ref 1), some (svI L), x, y, z] (dkO ⟨cs, n + 1, none⟩ ++ R) = some (.ok (.ref 0) (dkO ⟨cs, n + 1, none⟩ ++ R)) := rfl
    have e2 : callV bLen (argC (bin pIx (slot 0) (con (.int 0))) argN) [some (.ref 1), some (svI L), x, y, z] (dkO ⟨cs, n + 1, none⟩ ++ R) = some (.ok (svI (cs.length : Nat)) (dkO ⟨cs, n + 1, none⟩ ++ R)) := by
      rw [callVat (args_c e0 args_n)]
      show some (Res.ok (Sv.dat (.int ((cs.map svI).length : Nat))) _) = _
      rw [List.length_map]
    have e3 : callV bMax2 (argC (con (.int 1)) (argC (callV bLen (argC (bin pIx (slot 0) (con (.int 0))) argN)) argN)) [some (.ref 1), some (svI L), x, y, z] (dkO ⟨cs, n + 1, none⟩ ++ R) = some (.ok (svI (if cs = [] then 1 else (cs.length : Int))) (dkO ⟨cs, n + 1, none⟩ ++ R)) := by
      rw [callVat (args_c (show con (.int 1) _ _ = some (.ok (svI 1) (dkO ⟨cs, n + 1, none⟩ ++ R)) from rfl) (args_c e2 args_n))]
      show some (Res.ok (Sv.dat (.int (if ((cs.length : Nat) : Int) > 1 then _ else _))) _) = _
      rw [max1]
    rw [bin_at e1 e3]
    show (if decide (0 < (if cs = [] then (1 : Int) else (cs.length : Int))) = true then M.ret (Sv.dat (.int ((n + 1) % (if cs = [] then (1 : Int) else (cs.length : Int))))) else M.fail) (dkO ⟨cs, n + 1, none⟩ ++ R) = _
    rw [decide_eq_true hm, if_pos rfl]
    rfl
  rw [seq_at s2]
  obtain ⟨cell, g1, g2⟩ : ∃ cell, (cs ++ [0])[a.toNat]? = some cell ∧ atI (cs ++ [0]) a = some cell := atI_lt ha0 (by rw [List.length_append, List.length_singleton]; omega)
  have s3 : (gSet 3 (bin pIx (bin (pAdd false) (bin pIx (slot 0) (con (.int 0))) (lstV false (argC (con (.int 0)) argN))) (slot 2))) [some (.ref 1), some (svI L), some (svI a), y, z] (dkO ⟨cs, n + 1, none⟩ ++ R) = some (.ok (.nx [some (.ref 1), some (svI L), some (svI a), some (svI cell), z]) (dkO ⟨cs, n + 1, none⟩ ++ R)) := by
    refine gset_at (s := svI cell) ?_
    have e0 : bin pIx (slot 0) (con (.int 0)) [some (.ref 1), some (svI L), some (svI a), y, z] (dkO ⟨cs, n + 1, none⟩ ++ R) = some (.ok (.ref 0) (dkO ⟨cs, n + 1, none⟩ ++ R)) := rfl
    have e1 : bin (pAdd false) (bin pIx (slot 0) (con (.int 0))) (lstV false (argC (con (.int 0)) argN)) [some (.ref 1), some (svI L), some (svI a), y, z] (dkO ⟨cs, n + 1, none⟩ ++ R) = some (.ok (.dat (.list ((cs ++ [0]).map .int))) (dkO ⟨cs, n + 1, none⟩ ++ R)) := by
      rw [bin_at e0 (show lstV false (argC (con (.int 0)) argN) _ _ = some (.ok (.dat (.list [.int 0])) (dkO ⟨cs, n + 1, none⟩ ++ R)) from rfl)]
      · show (if szOk ((cs.map svI).length + 1) = true then mkl false (cs.map svI ++ [.dat (.int 0)]) else M.fail) _ = _
        rw [if_pos (show szOk _ = true from decide_eq_true (by rw [List.length_map]; omega))]
        have : cs.map svI ++ [Sv.dat (.int 0)] = ((cs ++ [0]).map PyData.int).map Sv.dat := by
          rw [List.map_map, List.map_append]
          rfl
        rw [this]
        exact mkl_dat _ _
    rw [bin_at e1 (show slot 2 _ _ = some (.ok (svI a) (dkO ⟨cs, n + 1, none⟩ ++ R)) from rfl)]
    exact lix_at (atI_map g2) _
  rw [seq_at s3]
  have gg : ∀ c : Int, (tst (bin pGe (slot 3) (bin pPow (con (.int 10)) (con (.int 18))))) [some (.ref 1), some (svI L), some (svI a), some (svI c), z] (dkO ⟨cs, n + 1, none⟩ ++ R) = some (.ok (decide (10 ^ 18 ≤ c)) (dkO ⟨cs, n + 1, none⟩ ++ R)) := fun c => rfl
  have tail : ∀ c : Int, 0 ≤ c → gSeq (gSet 4 (bin pMod (bin pPow (bin (pAdd false) (bin (pAdd false) (bin pMod (slot 3) (con (.int 2147483563))) (bin (pMul false) (con (.int 104729)) (bin pIx (slot 0) (con (.int 1))))) (con (.int 7))) (con (.int 4))) (con (.int 2147483629))))
      (gRet (bin pMod (bin (pAdd false) (bin pFdiv (slot 4) (con (.int 8))) (bin (pMul false) (con (.int 31)) (bin pIx (slot 0) (con (.int 1))))) (slot 1))) [some (.ref 1), some (svI L), some (svI a), some (svI c), z] (dkO ⟨cs, n + 1, none⟩ ++ R) = some (.ok (.rt (svI (tailB c (n + 1) L))) (dkO ⟨cs, n + 1, none⟩ ++ R)) := fun c hc => by
    have b1 : 0 ≤ c % 2147483563 := Int.emod_nonneg _ (by decide)
    have b2 : c % 2147483563 < 2147483563 := Int.emod_lt_of_pos _ (by decide)
    have c2 : (decide ((0 : Int) ≤ 4) && decide ((4 : Int) ≤ 1000000) && decide ((c % 2147483563 + 104729 * (n + 1) + 7).natAbs < 2 ^ 64)) = true := by
      have : (c % 2147483563 + 104729 * (n + 1) + 7).natAbs < 2 ^ 64 := by omega
      rw [decide_eq_true this]
      rfl
    have q1 : bin pPow (bin (pAdd false) (bin (pAdd false) (bin pMod (slot 3) (con (.int 2147483563))) (bin (pMul false) (con (.int 104729)) (bin pIx (slot 0) (con (.int 1))))) (con (.int 7))) (con (.int 4)) [some (.ref 1), some (svI L), some (svI a), some (svI c), z] (dkO ⟨cs, n + 1, none⟩ ++ R) = some (.ok (svI ((c % 2147483563 + 104729 * (n + 1) + 7) ^ (4 : Int).toNat)) (dkO ⟨cs, n + 1, none⟩ ++ R)) := by
      rw [bin_at (a := svI (c % 2147483563 + 104729 * (n + 1) + 7)) (μ1 := dkO ⟨cs, n + 1, none⟩ ++ R) rfl (show con (.int 4) _ _ = some (.ok (svI 4) (dkO ⟨cs, n + 1, none⟩ ++ R)) from rfl)]
      show (if (decide ((0 : Int) ≤ 4) && decide ((4 : Int) ≤ 1000000) && decide ((c % 2147483563 + 104729 * (n + 1) + 7).natAbs < 2 ^ 64)) = true then _ else _ : M Sv) _ = _
      rw [c2, if_pos rfl]
      rfl
    have q2 : (gSet 4 (bin pMod (bin pPow (bin (pAdd false) (bin (pAdd false) (bin pMod (slot 3) (con (.int 2147483563))) (bin (pMul false) (con (.int 104729)) (bin pIx (slot 0) (con (.int 1))))) (con (.int 7))) (con (.int 4))) (con (.int 2147483629)))) [some (.ref 1), some (svI L), some (svI a), some (svI c), z] (dkO ⟨cs, n + 1, none⟩ ++ R) =
        some (.ok (.nx [some (.ref 1), some (svI L), some (svI a), some (svI c), some (svI ((c % 2147483563 + 104729 * (n + 1) + 7) ^ (4 : Int).toNat % 2147483629))]) (dkO ⟨cs, n + 1, none⟩ ++ R)) := by
      refine gset_at (s := svI _) ?_
      rw [bin_at q1 (show con (.int 2147483629) _ _ = some (.ok (svI 2147483629) (dkO ⟨cs, n + 1, none⟩ ++ R)) from rfl)]
      rfl
    rw [seq_at q2]
    refine ret_gives ?_
    have q3 : bin (pAdd false) (bin pFdiv (slot 4) (con (.int 8))) (bin (pMul false) (con (.int 31)) (bin pIx (slot 0) (con (.int 1)))) [some (.ref 1), some (svI L), some (svI a), some (svI c), some (svI ((c % 2147483563 + 104729 * (n + 1) + 7) ^ (4 : Int).toNat % 2147483629))] (dkO ⟨cs, n + 1, none⟩ ++ R) =
        some (.ok (svI ((c % 2147483563 + 104729 * (n + 1) + 7) ^ (4 : Int).toNat % 2147483629 / 8 + 31 * (n + 1))) (dkO ⟨cs, n + 1, none⟩ ++ R)) := rfl
    rw [bin_at q3 (show slot 1 _ _ = some (.ok (svI L) (dkO ⟨cs, n + 1, none⟩ ++ R)) from rfl)]
    show (if decide (0 < L) = true then _ else _ : M Sv) _ = _
    rw [cl, if_pos rfl]
    rfl
  by_cases he : cs = []
  · subst he
    have ha : a = 0 := by
      have : a < (0 : Nat) + 1 := ha1
      omega
    have hc : cell = 0 := by
      rw [ha] at g1
      exact (Option.some.inj g1).symm
    subst hc
    rw [seq_at (ρ' := [some (.ref 1), some (svI L), some (svI a), some (svI 0), z]) (μ' := dkO ⟨[], n + 1, none⟩ ++ R) (by rw [if_f (gg 0)]; rfl), tail 0 (Int.le_refl _)]
    rfl
  · have hpos : 0 < cs.length := List.length_pos_iff.mpr he
    have ha : a = (n + 1) % (cs.length : Int) := by
      show atB ⟨cs, n, none⟩ = _
      unfold atB
      rw [if_neg he]
    have ha2 : a < cs.length := by
      rw [ha]
      exact Int.emod_lt_of_pos _ (by omega)
    have g3 : cs[a.toNat]? = some cell := by
      rw [List.getElem?_append_left (by omega)] at g1
      exact g1
    have hcell : 0 ≤ cell := hp _ (List.mem_of_getElem? g3)
    have hd : drawB ⟨cs, n, none⟩ L = if 10 ^ 18 ≤ cell then (cell % L, ⟨cs.set a.toNat (cell / L), n + 1, none⟩) else (tailB cell (n + 1) L, ⟨cs, n + 1, none⟩) := by
      unfold drawB
      dsimp only
      rw [← ha, g3]
    by_cases hb : 10 ^ 18 ≤ cell
    · have g := gg cell
      rw [decide_eq_true hb] at g
      rw [hd, if_pos hb]
      refine seq_rt ?_
      rw [if_t g]
      have e1 : ((gAsg (bin pFdiv (slot 3) (slot 1)) (gSt (bin pIx (slot 0) (con (.int 0))) (slot 2)))) [some (.ref 1), some (svI L), some (svI a), some (svI cell), z] (dkO ⟨cs, n + 1, none⟩ ++ R) =
          some (.ok (.nx [some (.ref 1), some (svI L), some (svI a), some (svI cell), z]) (dkO ⟨cs.set a.toNat (cell / L), n + 1, none⟩ ++ R)) := by
        have hix : ixN (cs.map svI).length a = some a.toNat := by
          rw [List.length_map]
          exact ixN_lt ha0 ha2
        have q1 : bin pFdiv (slot 3) (slot 1) [some (.ref 1), some (svI L), some (svI a), some (svI cell), z] (dkO ⟨cs, n + 1, none⟩ ++ R) = some (.ok (svI (cell / L)) (dkO ⟨cs, n + 1, none⟩ ++ R)) := by
          rw [bin_at (show slot 3 _ _ = some (.ok (svI cell) (dkO ⟨cs, n + 1, none⟩ ++ R)) from rfl) (show slot 1 _ _ = some (.ok (svI L) (dkO ⟨cs, n + 1, none⟩ ++ R)) from rfl)]
          show (if (decide (0 < L) && decide (L < 1073741824)) = true then _ else _ : M Sv) _ = _
          rw [cl, cl2]
          rfl
        unfold gAsg
        rw [bind_ok q1]
        unfold gSt
        rw [M.assoc, bind_ok (show bin pIx (slot 0) (con (.int 0)) _ _ = some (.ok (.ref 0) (dkO ⟨cs, n + 1, none⟩ ++ R)) from rfl), M.assoc, bind_ok (show slot 2 _ _ = some (.ok (svI a) (dkO ⟨cs, n + 1, none⟩ ++ R)) from rfl), M.assoc, bind_ok (show asI (svI a) _ = some (.ok a (dkO ⟨cs, n + 1, none⟩ ++ R)) from rfl), M.assoc, bind_ok (show tagOf (.ref 0) _ = some (.ok (0, cs.map svI) (dkO ⟨cs, n + 1, none⟩ ++ R)) from rfl)]
        dsimp only
        rw [hix]
        show some (Res.ok _ (.lst ((cs.map svI).set a.toNat (svI (cell / L))) :: _)) = _
        rw [← List.map_set]
        rfl
      rw [seq_at e1]
      refine ret_gives ?_
      rw [bin_at (show slot 3 _ _ = some (.ok (svI cell) _) from rfl) (show slot 1 _ _ = some (.ok (svI L) (dkO ⟨cs.set a.toNat (cell / L), n + 1, none⟩ ++ R)) from rfl)]
      show (if decide (0 < L) = true then _ else _ : M Sv) _ = _
      rw [cl, if_pos rfl]
      rfl
    · have g := gg cell
      rw [decide_eq_false hb] at g
      rw [hd, if_neg hb]
      rw [seq_at (ρ' := [some (.ref 1), some (svI L), some (svI a), some (svI cell), z]) (μ' := dkO ⟨cs, n + 1, none⟩ ++ R) (by rw [if_f g]; rfl), tail cell hcell]
theorem tt_drawB (a1 : PyData) : Jd [some .dk, some (.im a1), none, none, none] GdrawB (TdrawB a1) pR := fun k rest ρ μ e r k' q => by
  obtain ⟨g, hg⟩ := e.pre
  have hl : ρ.length = 5 := e.len
  obtain ⟨s0, h0, z0⟩ := e.at_ 0 _ rfl
  obtain ⟨s1, h1, z1⟩ := e.at_ 1 _ rfl
  cases z0
  cases z1
  match ρ, hl with
  | [p0, p1, x, y, z], _ =>
    cases h0
    cases h1
    cases a1 with
    | int L =>
      unfold TdrawB at q
      dsimp only at q
      split at q
      · rename_i hc
        cases q
        refine ⟨_, _, ?_, rfl, g, rfl⟩
        rw [hg, List.append_assoc, drawB_run (rest ++ g) hc.1 hc.2.1 hc.2.2.1 hc.2.2.2, List.append_assoc]
      · cases q
    | _ => cases q
end Pf

set_option maxHeartbeats 1000000
namespace Pf
open PySem PySem.Spec PyProof.Rows L2
instance famN : Fam := ⟨dGood⟩
/-! ### the law's own call -/
def GdeckN (m : Int) : Rho → M Out :=
  (gRet (lstV true (argC (lcV true [1] (seqV (slV false (slot 0) noPart (aPart (con (.int m))))) (gNm 1) yes (callV bAbs (argC (slot 1) argN))) (argC (con (.int 0)) argN))))
theorem deck_madeN {m : Nat} (hm : m ≤ 63) (ns : List Int) : ∃ k, strip 2 (GdeckN (m : Int)) [.scr ns] [] = some (.ok (.ref 1) (dkO k)) ∧ dGood k ∧ k.n = 0 := by
  have hcut : cutL ns none (some (m : Int)) = ns.take m := by
    unfold cutL
    rw [HT.sIx_none]
    show (ns.drop 0).take (HT.sIx ns.length ns.length (some ((m : Nat) : Int)) - 0) = _
    rw [HT.sIx_nat, List.drop_zero, Nat.sub_zero]
    rcases Nat.le_total m ns.length with h | h
    · rw [Nat.min_eq_left h]
    · rw [Nat.min_eq_right h, List.take_of_length_le (Nat.le_refl _), List.take_of_length_le h]
  generalize hxs : ns.take m = xs at hcut
  have hlen : xs.length ≤ 63 := by
    rw [← hxs, List.length_take]
    omega
  let ds := xs.map fun n => PyData.int n
  have e1 : dats (xs.map fun n => Sv.dat (.int n)) = some ds := by
    have := dats_map ds
    rw [List.map_map] at this
    exact this
  have e2 : lcL (gNm 1) yes (callV bAbs (argC (slot 1) argN)) ds (wipeR [some (.scr ns), none] [1]) [] = some (.ok (ds.map fun d => match d with | .int i => svI (if i < 0 then -i else i) | _ => svI 0) []) := by
    refine lcL_map _ fun d hd => ?_
    obtain ⟨i, _, rfl⟩ := List.mem_map.mp hd
    exact ⟨_, rfl, rfl⟩
  have e3 : (ds.map fun d => match d with | .int i => svI (if i < 0 then -i else i) | _ => svI 0) = (xs.map fun i => if i < 0 then -i else i).map svI := by
    rw [List.map_map, List.map_map]
    rfl
  have sz : szOk ds.length = true := decide_eq_true (by rw [List.length_map]; omega)
  have e : GdeckN (m : Int) [some (.scr ns), none] [] = some (.ok (.rt (.ref 1)) (dkO ⟨xs.map fun i => if i < 0 then -i else i, 0, none⟩)) := by
    simp only [GdeckN, gRet, lstV, argC, lcV, seqV, slV, slot, noPart, aPart, con, asI, M.bind, M.ret, pSl, hcut, mkl, e1, Option.map, seqOf, List.getElem?_cons_zero, sz, if_true, e2, e3, argN, List.length_cons, List.length_nil]
    rfl
  refine ⟨_, strip_rt e, ⟨Int.le_refl _, fun c hc => ?_, by rw [List.length_map]; exact hlen, rfl⟩, rfl⟩
  obtain ⟨i, _, rfl⟩ := List.mem_map.mp hc
  split <;> omega
end Pf

set_option maxHeartbeats 1000000
namespace Pf
open PySem PySem.Spec PyProof.Rows L2
/-! ### the deck of the laws k35 to k63 -/
def GdrawEh : Rho → M Out :=
  (gSeq (gAsg (bin (pAdd false) (bin pIx (slot 0) (con (.int 1))) (con (.int 1))) (gSt (slot 0) (con (.int 1))))
  (gSeq (gSet 2 (con (.int 0)))
  (gSeq (gSet 3 (negV (con (.int 1))))
  (gSeq (gIf (tst (bin pGt (callV bLen (argC (bin pIx (slot 0) (con (.int 0))) argN)) (con (.int 0))))
  (gSeq (gSet 3 (bin pMod (bin pIx (slot 0) (con (.int 1))) (callV bLen (argC (bin pIx (slot 0) (con (.int 0))) argN))))
  (gSet 2 (bin pIx (bin pIx (slot 0) (con (.int 0))) (slot 3))))
  gSkip)
  (gSeq (gIf (tst (bin pGe (slot 2) (bin pPow (con (.int 10)) (con (.int 18)))))
  (gSeq (gAsg (bin pFdiv (slot 2) (slot 1)) (gSt (bin pIx (slot 0) (con (.int 0))) (slot 3)))
  (gRet (bin pMod (slot 2) (slot 1))))
  gSkip)
  (gRet (bin pMod (bin pMod (bin pPow (bin (pAdd false) (bin (pAdd false) (bin pMod (slot 2) (con (.int 2147483587))) (bin (pMul false) (con (.int 7919)) (bin pIx (slot 0) (con (.int 1))))) (con (.int 1))) (con (.int 5))) (con (.int 2147483647))) (slot 1))))))))
def tailEh (cell n L : Int) : Int := (cell % 2147483587 + 7919 * n + 1) ^ (5 : Int).toNat % 2147483647 % L
def drawEh (k : Dk) (L : Int) : Int × Dk :=
  match k.cs[((k.n + 1) % (k.cs.length : Int)).toNat]? with
  | none => (tailEh 0 (k.n + 1) L, ⟨k.cs, k.n + 1, k.ce⟩)
  | some c => if 10 ^ 18 ≤ c then (c % L, ⟨k.cs.set ((k.n + 1) % (k.cs.length : Int)).toNat (c / L), k.n + 1, k.ce⟩) else (tailEh c (k.n + 1) L, ⟨k.cs, k.n + 1, k.ce⟩)
open Classical in
noncomputable def TdrawEh : PyData → S PyData
  | .int L => fun k => if 0 < L ∧ L < 1073741824 ∧ dGood k ∧ k.n < 10 ^ 12 then some (.ok (.int (drawEh k L).1), (drawEh k L).2) else none
  | _ => S.fail
theorem tailEh_run {cell n L : Int} {cs : List Int} {R : Mu} (i : Sv) (hc : 0 ≤ cell) (h0 : 0 ≤ n) (h1 : n ≤ 10 ^ 12) (hL : 0 < L) :
    (gRet (bin pMod (bin pMod (bin pPow (bin (pAdd false) (bin (pAdd false) (bin pMod (slot 2) (con (.int 2147483587))) (bin (pMul false) (con (.int 7919)) (bin pIx (slot 0) (con (.int 1))))) (con (.int 1))) (con (.int 5))) (con (.int 2147483647))) (slot 1)))
      [some (.ref 1), some (svI L), some (svI cell), some i] (deckMu cs n R) = some (.ok (.rt (svI (tailEh cell n L))) (deckMu cs n R)) := by
  have b1 : 0 ≤ cell % 2147483587 := Int.emod_nonneg _ (by decide)
  have b2 : cell % 2147483587 < 2147483587 := Int.emod_lt_of_pos _ (by decide)
  have c1 : (small 7919 || small n) = true := rfl
  have c2 : (decide ((0 : Int) ≤ 5) && decide ((5 : Int) ≤ 1000000) && decide ((cell % 2147483587 + 7919 * n + 1).natAbs < 2 ^ 64)) = true := by
    have : (cell % 2147483587 + 7919 * n + 1).natAbs < 2 ^ 64 := by omega
    rw [decide_eq_true this]
    rfl
  have c3 : decide (0 < L) = true := decide_eq_true hL
  simp only [gRet, bin, slot, con, pMod, pFdiv, pPow, pAdd, pMul, pIx, lsOf, M.bind, List.getElem?_cons_succ, List.getElem?_cons_zero, svI, deckMu, orFail, c1, c2, c3, atI_1, if_true, Option.map, decide_true, Bool.and_self, ite_true, Int.reduceLT, iteM, ret_at]
  rfl
theorem drawE_run {k : Dk} {L : Int} (R : Mu) (hL : 0 < L) (hL2 : L < 1073741824) (hk : dGood k) (hn : k.n < 10 ^ 12) (x y : Option Sv) :
    GdrawEh [some (.ref 1), some (svI L), x, y] (dkO k ++ R) = some (.ok (.rt (svI (drawEh k L).1)) (dkO (drawEh k L).2 ++ R)) := by
  obtain ⟨cs, n, ce⟩ := k
  obtain ⟨h0, hp, hlen, hce⟩ := hk
  replace hce : ce = none := hce
  subst hce
  replace h0 : 0 ≤ n := h0
  replace hn : n < 10 ^ 12 := hn
  replace hp : ∀ c ∈ cs, 0 ≤ c := hp
  have c3 : decide (0 < L) = true := decide_eq_true hL
  have c4 : decide (L < 1073741824) = true := decide_eq_true hL2
  show GdrawEh _ (deckMu cs n R) = _
  unfold GdrawEh
  have hd0 : ((gAsg (bin (pAdd false) (bin pIx (slot 0) (con (.int 1))) (con (.int 1))) (gSt (slot 0) (con (.int 1))))) [some (.ref 1), some (svI L), x, y] (deckMu cs n R) = some (.ok (.nx [some (.ref 1), some (svI L), x, y]) (deckMu cs (n + 1) R)) := rfl
  rw [seq_at hd0]
  have tst0 : ∀ l s t, (tst (bin pGt (callV bLen (argC (bin pIx (slot 0) (con (.int 0))) argN)) (con (.int 0)))) [some (.ref 1), l, s, t] (deckMu cs (n + 1) R) = some (.ok (decide (0 < (cs.length : Int))) (deckMu cs (n + 1) R)) := fun l s t => by
    simp only [tst, bin, callV, argC, argN, bLen, pGt, pCmp, slot, con, pIx, lsOf, M.bind, List.getElem?_cons_succ, List.getElem?_cons_zero, svI, deckMu, orFail, atI_0, Option.map, ret_at, List.length_map, asB]
  have set2 : ∀ l s t, (gSet 2 (con (.int 0))) [some (.ref 1), l, s, t] (deckMu cs (n + 1) R) = some (.ok (.nx [some (.ref 1), l, some (svI 0), t]) (deckMu cs (n + 1) R)) := fun _ _ _ => rfl
  have set3 : ∀ l s t, (gSet 3 (negV (con (.int 1)))) [some (.ref 1), l, s, t] (deckMu cs (n + 1) R) = some (.ok (.nx [some (.ref 1), l, s, some (svI (-1))]) (deckMu cs (n + 1) R)) := fun _ _ _ => rfl
  have ge18 : ∀ l t c, (tst (bin pGe (slot 2) (bin pPow (con (.int 10)) (con (.int 18))))) [some (.ref 1), l, some (svI c), t] (deckMu cs (n + 1) R) = some (.ok (decide (10 ^ 18 ≤ c)) (deckMu cs (n + 1) R)) := fun l t c => rfl
  rw [seq_at (set2 _ _ _), seq_at (set3 _ _ _)]
  by_cases he : cs = []
  · subst he
    have t0 := tst0 (some (svI L)) (some (svI 0)) (some (svI (-1)))
    rw [seq_at (ρ' := [some (.ref 1), some (svI L), some (svI 0), some (svI (-1))]) (μ' := deckMu [] (n + 1) R) (by rw [if_f t0]; rfl)]
    rw [seq_at (ρ' := [some (.ref 1), some (svI L), some (svI 0), some (svI (-1))]) (μ' := deckMu [] (n + 1) R) (by rw [if_f (ge18 _ _ _)]; rfl)]
    rw [tailEh_run (cell := 0) (svI (-1)) (by decide) (by omega) (by omega) hL]
    rfl
  · have hpos : 0 < cs.length := List.length_pos_iff.mpr he
    have cpos : decide (0 < (cs.length : Int)) = true := decide_eq_true (by omega)
    have i0 : 0 ≤ (n + 1) % (cs.length : Int) := Int.emod_nonneg _ (by omega)
    have i1 : (n + 1) % (cs.length : Int) < cs.length := Int.emod_lt_of_pos _ (by omega)
    obtain ⟨cell, g1, g2⟩ := atI_lt (xs := cs) i0 i1
    have hcell : 0 ≤ cell := hp _ (List.mem_of_getElem? g1)
    have g3 : atI (cs.map svI) ((n + 1) % (cs.length : Int)) = some (svI cell) := atI_map g2
    have t0 := tst0 (some (svI L)) (some (svI 0)) (some (svI (-1)))
    rw [cpos] at t0
    rw [seq_at (ρ' := [some (.ref 1), some (svI L), some (svI cell), some (svI ((n + 1) % (cs.length : Int)))]) (μ' := deckMu cs (n + 1) R) (by
      rw [if_t t0]
      simp only [gSeq, gSet, bin, callV, argC, argN, bLen, pMod, slot, con, pIx, lsOf, M.bind, List.getElem?_cons_succ, List.getElem?_cons_zero, svI, deckMu, orFail, atI_0, atI_1, Option.map, ret_at, List.length_map, iteM, cpos, ite_true, List.set_cons_succ, List.set_cons_zero]
      rw [show List.map (fun i => Sv.dat (PyData.int i)) cs = cs.map svI from rfl, g3])]
    have hd : drawEh ⟨cs, n, none⟩ L = if 10 ^ 18 ≤ cell then (cell % L, ⟨cs.set ((n + 1) % (cs.length : Int)).toNat (cell / L), n + 1, none⟩) else (tailEh cell (n + 1) L, ⟨cs, n + 1, none⟩) := by
      unfold drawEh
      dsimp only
      rw [g1]
    by_cases hb : 10 ^ 18 ≤ cell
    · have gg := ge18 (some (svI L)) (some (svI ((n + 1) % (cs.length : Int)))) cell
      rw [decide_eq_true hb] at gg
      rw [hd, if_pos hb]
      refine seq_rt ?_
      rw [if_t gg]
      have e1 : ((gAsg (bin pFdiv (slot 2) (slot 1)) (gSt (bin pIx (slot 0) (con (.int 0))) (slot 3)))) [some (.ref 1), some (svI L), some (svI cell), some (svI ((n + 1) % (cs.length : Int)))] (deckMu cs (n + 1) R) =
          some (.ok (.nx [some (.ref 1), some (svI L), some (svI cell), some (svI ((n + 1) % (cs.length : Int)))]) (deckMu (cs.set ((n + 1) % (cs.length : Int)).toNat (cell / L)) (n + 1) R)) := by
        have hix : ixN (cs.map svI).length ((n + 1) % (cs.length : Int)) = some ((n + 1) % (cs.length : Int)).toNat := by
          rw [List.length_map]
          exact ixN_lt i0 i1
        simp only [gAsg, gSt, bin, pFdiv, slot, con, pIx, lsOf, M.bind, List.getElem?_cons_succ, List.getElem?_cons_zero, svI, deckMu, orFail, atI_0, Option.map, ret_at, iteM, c3, c4, Bool.and_self, ite_true, asI, tagOf, wrt]
        rw [show List.map (fun i => Sv.dat (PyData.int i)) cs = cs.map svI from rfl, hix]
        simp only [List.set_cons_zero, List.map_set]
      rw [seq_at e1]
      simp only [gRet, bin, pMod, slot, M.bind, List.getElem?_cons_succ, List.getElem?_cons_zero, svI, ret_at, iteM, c3, ite_true]
      rfl
    · have gg := ge18 (some (svI L)) (some (svI ((n + 1) % (cs.length : Int)))) cell
      rw [decide_eq_false hb] at gg
      rw [hd, if_neg hb]
      rw [seq_at (ρ' := [some (.ref 1), some (svI L), some (svI cell), some (svI ((n + 1) % (cs.length : Int)))]) (μ' := deckMu cs (n + 1) R) (by rw [if_f gg]; rfl)]
      exact tailEh_run (cell := cell) (svI ((n + 1) % (cs.length : Int))) hcell (by omega) (by omega) hL
theorem tt_drawEh (a1 : PyData) : Jd [some .dk, some (.im a1), none, none] GdrawEh (TdrawEh a1) pR := fun k rest ρ μ e r k' q => by
  obtain ⟨g, hg⟩ := e.pre
  have hl : ρ.length = 4 := e.len
  obtain ⟨s0, h0, z0⟩ := e.at_ 0 _ rfl
  obtain ⟨s1, h1, z1⟩ := e.at_ 1 _ rfl
  cases z0
  cases z1
  match ρ, hl with
  | [p0, p1, x, y], _ =>
    cases h0
    cases h1
    cases a1 with
    | int L =>
      unfold TdrawEh at q
      dsimp only at q
      split at q
      · rename_i hc
        cases q
        refine ⟨_, _, ?_, rfl, g, rfl⟩
        rw [hg, List.append_assoc, drawE_run (rest ++ g) hc.1 hc.2.1 hc.2.2.1 hc.2.2.2, List.append_assoc]
      · cases q
    | _ => cases q
theorem same_drawEh (ss : List Sv) (μ : Mu) (r : Res Sv) (hs : ss.length = 2) (wf : Wf μ) (e : liftD (u1 TdrawEh) ss μ = some r) : ∃ r', GdrawEh (ini 4 ss) μ = some r' ∧ Agree μ.length r r' :=
  same_D (n := 1) (by decide) (fun ds h => by
    obtain ⟨a, rfl⟩ := len1 h
    exact r_e (tt_drawEh a)) ss μ r hs wf e
theorem tailEh_ok (c n : Int) {L : Int} (hL : 0 < L) : 0 ≤ tailEh c n L ∧ tailEh c n L < L := ⟨Int.emod_nonneg _ (by omega), Int.emod_lt_of_pos _ hL⟩
theorem Can.drawEh {L : Int} (h0 : 0 < L) (h1 : L < 1073741824) : Can 1 (TdrawEh (.int L)) fun d => ∃ r : Int, d = .int r ∧ 0 ≤ r ∧ r < L := fun k g hb => by
  have hc : 0 < L ∧ L < 1073741824 ∧ dGood k ∧ k.n < 10 ^ 12 := ⟨h0, h1, g, by omega⟩
  refine ⟨_, _, show TdrawEh (.int L) k = _ by unfold TdrawEh; dsimp only; rw [if_pos hc], ⟨_, rfl, ?_⟩, ?_, ?_⟩
  · unfold Pf.drawEh
    split
    · exact tailEh_ok _ _ h0
    · split
      · exact ⟨Int.emod_nonneg _ (by omega), Int.emod_lt_of_pos _ h0⟩
      · exact tailEh_ok _ _ h0
  · have g0 := g.n0
    unfold Pf.drawEh
    split
    · exact ⟨by show 0 ≤ k.n + 1; omega, g.pos, g.len, g.ce⟩
    · rename_i c hcell
      have hc0 : 0 ≤ c := g.pos _ (List.mem_of_getElem? hcell)
      split
      · refine ⟨by show 0 ≤ k.n + 1; omega, fun c' hc' => ?_, by show (k.cs.set _ _).length ≤ 63; rw [List.length_set]; exact g.len, g.ce⟩
        rcases List.mem_or_eq_of_mem_set hc' with z | z
        · exact g.pos _ z
        · rw [z]
          exact Int.ediv_nonneg hc0 (by omega)
      · exact ⟨by show 0 ≤ k.n + 1; omega, g.pos, g.len, g.ce⟩
  · have : (Pf.drawEh k L).2.n = k.n + 1 := by
      unfold Pf.drawEh
      split
      · rfl
      · split <;> rfl
    rw [this]
    omega
end Pf

namespace Pf
open PySem PySem.Spec PyProof.Rows L2
namespace Err_NoTable
/-! ### an error of the program's own, with one field -/
section
open PySem.W PySem.Calls PySem.HandSPX
def tlArgs (a b : Pos) : Arguments := { vararg := none, kwarg := none, posonlyargs := [], kwonlyargs := [], kw_defaults := [], defaults := [], args := [{ arg := "self", annotation := none, pos := a }, { arg := "pair", annotation := none, pos := b }] }
def tlBody (a b c d : Pos) : List Stmt := [.Assign [.Attribute (.Name "self" a) "pair" b] (.Name "pair" c) d]
def tlScope : Scope := { isGenerator := false, isCoroutine := false, more := [], kind := .function, names := [(PySem.Str.ofString "self", .local), (PySem.Str.ofString "pair", .local)] }
/-- what stands of the class, at C, its __init__ at f -/
structure TL (K : Frag) (mg : Str → Option Value) (C f : Addr) : Prop where
  nC : nsIn K mainGlobals "NoTable" = some (some (.ref C))
  gC : mg "NoTable" = some (.ref C)
  ob : ∃ nm q N bs bm sn sub ab col dd m0 m1 m2 m3 m5, K.lookup C = some (excClassObj nm q C N bs bm true sn sub ab col dd m0 m1 m2 m3 m5 "ValueError.__new__") ∧ refsVE bm = true
  f_set : findIn K (.ref C) "__setattr__" = some (some (.builtin "object.__setattr__"))
  f_get : findIn K (.ref C) "__getattribute__" = some (some (.builtin "BaseException.__getattribute__"))
  f_at : findIn K (.ref C) "__getattr__" = some none
  f_fld : findIn K (.ref C) "pair" = some none
  f_ini : findIn K (.ref C) "__init__" = some (some (.ref f))
  f_cls : findIn K (.ref C) "__class__" = some (some (.builtin "object.__class__"))
  s_get : specialIn K (.builtin "object.__class__") "__get__" = some (some (.builtin "getset_descriptor.__get__"))
  tk : takesIn K (.builtin "object.__class__") = some true
  mro : mroIn K C (.type "object") = some true
  tyF : typeIn K (.ref f) = some (.type "function")
  kp : keepIn K (.ref C) = true
  sub : subIn K (.ref C) (.type "BaseException") = some true
  tyC : typeIn K (.ref C) = some (.type "type")
  dct : hasDictIn K C = true
  fn : ∃ (oc : Value) (od : Option Addr) (kV doc pm : Value) (an : Option Addr) (cdv ct : Value) (osl : Array (Option Value)) (p1 p2 q1 q2 q3 q4 : Pos),
    K.lookup f = some ⟨oc, od, .func (fnOf "__init__" "NoTable.__init__" (tlArgs p1 p2) (tlBody q1 q2 q3 q4) tlScope .none kV doc pm an cdv ct), osl⟩ ∧ codeIn K cdv "NoTable.__init__" = true
theorem sz_one (v : Value) : [v].length ≤ sizeLine := by
  rw [sizeLine_eq]
  show 1 ≤ 16777216
  decide
theorem ld_param {M : Model} {s : Shared} {nm : Str} {sc : Scope} {L a : Addr} {cdv : Value} {m : Str → Option Value} {y : Str} {pos : Pos} {v : Value} {Q : Value → Shared → Prop} {A : Around} {E : Value → Shared → Prop} (hn : s.heap.Ns L m) (hv : m y = some v) (h : Q v s)
    (hk : sc.kind = .function := by rfl) (hl : (envOfC nm sc L a cdv).kindOf y = some .local := by rfl) (hd : (y == ("__debug__" : Str)) = false := by decide) : wpAny M A (eval (.Name y pos) (envOfC nm sc L a cdv)) Q E s := by
  refine wpAny_Name (wpAny_loadName_local hk hl hn hv h) hd
/-- behind __init__ -/
structure TlEnd (h h' : Heap) (x C dx t1 : Addr) (v : Value) : Prop where
  rest : ∀ b o, b ≠ x → h.get? b = some o → h'.get? b = some o
  self : h'.get? x = some { cls := .ref C, data := .fields #[.ref t1, .none, .none, .none, .bool false, .none], dict := some dx }
  late : h.objs.size ≤ dx
  apart : dx ≠ x
  fld : h'.Ns1 dx (fun y => if y = "pair" then some v else none)
/-- behind the making -/
structure TlMade (h h' : Heap) (e C d : Addr) (v : Value) : Prop where
  rest : ∀ b o, h.get? b = some o → h'.get? b = some o
  new : h.objs.size ≤ e
  self : ∃ oe vs, h'.get? e = some oe ∧ oe.cls = .ref C ∧ oe.dict = some d ∧ oe.data = .fields vs ∧ vs[1]? = some .none
  late : h.objs.size ≤ d
  apart : d ≠ e
  fld : h'.Ns1 d (fun y => if y = "pair" then some v else none)
variable {prog : Program} {w : World} {A : Around} {E : Value → Shared → Prop} {R : Result → Shared → Prop} {s : Shared} {K : Frag} {mg : Str → Option Value} {C f : Addr}
theorem tl_init (T : TL K mg C f) {x t0 : Addr} {v : Value} (X : K.In s.heap) (lim : s.heap.NoLimit) (hx : s.heap.get? x = some (excO C t0)) (room : A.depth < recursionLimit)
    (fin : ∀ h' tk dx, TlEnd s.heap h' x C dx t0 v → R (.ok (.ret .none)) { s with heap := h', toks := tk }) : codeAny (model prog w) A (.call (.ref f) ⟨[.ref x, v], []⟩) R s := by
  obtain ⟨oc, od, kV, doc, pm, an, cdv, ct, osl, p1, p2, q1, q2, q3, q4, ho, hcd⟩ := T.fn
  obtain ⟨nm, q, N, bs, bm, sn, sub, ab, col, dd, m0, m1, m2, m3, m5, hC, hbm⟩ := T.ob
  have cd : clsIn K C = some { name := nm, bases := bs, mro := .ref C :: bm, ns := N, qualname := q, hasDict := true, slotNames := sn, subclasses := sub, abstract := ab, collection := col, hasDel := false } := by
    unfold clsIn
    rw [hC] <;> rfl
  refine Att.call_fn (binds := [("self", .ref x), ("pair", v)]) X lim ho hcd room (BindsTo.of_eq (by first | rfl | with_unfolding_all rfl)) (by first | rfl | decide | with_unfolding_all rfl) (fun s₁ ic => ?_) rfl rfl rfl
  obtain ⟨h₁, tk₁, rfl⟩ := ic.toInCall.same
  have keep := ic.toInCall.keep
  have ns := ic.toInCall.ns
  have X₁ : K.In h₁ := X.keeps keep
  have hx₁ := keep _ _ hx
  show wpAny _ _ (execs _ _) _ _ _
  refine wpAny_execs_cons (plainObj_wpAny_Assign_Attribute (ld_param (v := v) ns (by first | rfl | with_unfolding_all rfl | kernel_rfl) (ld_param (v := .ref x) ns (by first | rfl | with_unfolding_all rfl | kernel_rfl) ?_)))
  refine set_plain X₁ (ox := excO C t0) (od := none) ⟨hx₁, rfl, rfl, trivial⟩ T.f_set (exc_osa X₁ hx₁ cd (show refsVE (.ref C :: bm) = true from hbm) rfl T.f_fld (fun h₃ tk₃ dx k₃ dn dne hx₃ hn₃ => ?_))
  have lt : s.heap.objs.size < h₁.objs.size := ns.lt
  show wpAny _ _ (execs _ _) _ _ _
  exact wpAny_execs_nil (fin h₃ tk₃ dx ⟨fun b o hb e => k₃ b o hb (keep b o e), hx₃, Nat.le_of_lt (Nat.lt_of_lt_of_le lt dn), dne, hn₃⟩)
theorem tl_made (T : TL K mg C f) {v : Value} (X : K.In s.heap) (lim : s.heap.NoLimit) (room : A.depth + 1 < recursionLimit) (fin : ∀ h' tk e d, TlMade s.heap h' e C d v → R (.ok (.ret (.ref e))) { s with heap := h', toks := tk }) :
    codeAny (model prog w) A (.call (.ref C) ⟨[v], []⟩) R s := by
  obtain ⟨nm, q, N, bs, bm, sn, sub, ab, col, dd, m0, m1, m2, m3, m5, hC, hbm⟩ := T.ob
  obtain ⟨hp, g, dr, tk, os⟩ := s
  have keep : ∀ b o, hp.get? b = some o → ((hp.push (kdv_tup [v])).push (excO C hp.objs.size)).get? b = some o := fun b o e => Heap.get?_push_of_some _ (Heap.get?_push_of_some _ e)
  have at_ : ((hp.push (kdv_tup [v])).push (excO C hp.objs.size)).get? (hp.objs.size + 1) = some (excO C hp.objs.size) := by heap_get
  refine call_own F.excBase_ValueError (fun Y => refsVE_contains Y bm hbm) (X _ _ hC) (looks_findIn X T.f_ini) (fun self => bind_fn X self T.tyF) (sz_one v) ?_
  refine tl_init (s := ⟨(hp.push (kdv_tup [v])).push (excO C hp.objs.size), g, dr, tk, os⟩) T (X.keeps keep) (lim.keeps keep) at_ (show A.depth + 1 < recursionLimit from room) fun h' tk' dx ⟨k', hx, dn, dne, hns⟩ => ?_
  have old : ∀ b o, hp.get? b = some o → h'.get? b = some o := fun b o e => k' b o (Nat.ne_of_lt (Nat.lt_succ_of_lt (Heap.lt_size e))) (keep b o e)
  have z : hp.objs.size + 1 + 1 ≤ dx := by
    first
      | (simpa only [Heap.size_push] using dn)
      | exact dn
      | (have q := dn; rw [Heap.size_push, Heap.size_push] at q; exact q)
  refine ⟨rfl, fin h' tk' (hp.objs.size + 1) dx ⟨old, Nat.le_succ _, ⟨_, _, hx, rfl, rfl, rfl, rfl⟩, Nat.le_trans (Nat.le_trans (Nat.le_succ _) (Nat.le_succ _)) z, dne, hns⟩⟩
end
theorem rel_bound {v : V} {v' : Value} (r : RelV v v') (g : Str) : RelO (List.lookup g [(("pair" : Str), v)]) (if g = "pair" then some v' else none) := by
  by_cases h : g = "pair"
  · subst h
    rw [if_pos rfl, show List.lookup ("pair" : Str) [(("pair" : Str), v)] = some v by simp [List.lookup]]
    exact r
  · rw [if_neg h, show List.lookup g [(("pair" : Str), v)] = none by
      have n : (g == ("pair" : Str)) = false := by simpa using h
      simp [List.lookup, n]]
    trivial
section
variable {X : Cx} {E : XK} {C f : Addr} {k : Nat} {a e : Expr} {es : List Expr} {Fa : Rho → M Sv} {Fs Fk : Rho → M (List Sv)} {p pos pos2 : Pos}
def mkTl (C : Addr) (ta : TA) : L2.St → Hp → XK → Prop := fun σ H Q => ta σ H fun vs H1 => ∃ v, vs = [v] ∧ ∀ d, H1 d = none → Q (.ref C) (some d) (upd H1 d (.xd [(("pair" : Str), v)]))
theorem pmk_tl {ta : TA} (T : TL X.K X.mg C f) (hr : Room k X.A) (ha : PA X [a] ta) (hg : Gl X "NoTable" := by rfl) (he : starEach (a :: []) X.env = (false, eval a X.env) :: starEach [] X.env := by rfl) (hpl : (backTo pos (starEach [] X.env)).any (·.1) = false := by rfl) :
    PMk X (.Call (.Name "NoTable" p) [a] [] pos) (mkTl C ta) := by
  intro pins s σ H Q I h
  refine wpAny_Call_Name_kw (ld_glob I hg T.gC (PySem.W.callWith_K (h₀ := X.base) I.ok.mod.kin T.kp (thn (ha.run pos pins s σ H _ I h) fun us s1 ⟨vs, H1, I1, r1, v, ev, q1⟩ => ⟨I1.kIn, ?_⟩) he hpl))
  subst ev
  obtain ⟨u, rfl, rv⟩ := vals1 r1
  show wpAny _ _ (call (.ref C) [u]) _ _ _
  have lim := I1.nolimit
  obtain ⟨hp, g, dr, tk, os⟩ := s1
  refine wpAny_call (tl_made T I1.kIn lim (by have := hr.dp; omega) fun h' tk' e d mk => ?_)
  show MkP X pins σ Q (.ref e) ⟨h', g, dr, tk', os⟩
  obtain ⟨oe, fv, hoe, hc, hd, hdat, h1⟩ := mk.self
  obtain ⟨G, g1, g2⟩ := restrict h' fun b => decide (b ≠ e)
  have gk : ∀ b, b ≠ e → G.get? b = h'.get? b := fun b hb => g1 b (decide_eq_true hb)
  have ge : G.get? e = none := g2 e (by simp)
  have old : ∀ b o, hp.get? b = some o → G.get? b = some o := fun b o q => (gk b (Nat.ne_of_lt (Nat.lt_of_lt_of_le (Heap.lt_size q) mk.new))).trans (mk.rest b o q)
  have ob : ObjOk X.prog X.w (upd H1 d (.xd [(("pair" : Str), v)])) G d (.xd [(("pair" : Str), v)]) := ⟨_, mk.fld.at (fun o q => (gk d mk.apart).trans q), fun g => rel_bound rv g⟩
  have J : Inv X pins σ (upd H1 d (.xd [(("pair" : Str), v)])) ⟨G, g, dr, tk', os⟩ := I1.laid (t' := tk') old mk.late ob
  have none_e : upd H1 d (.xd [(("pair" : Str), v)]) e = none := by
    rw [upd_ne (Ne.symm mk.apart)]
    exact I1.hok.fresh mk.new
  refine ⟨e, oe, fv, ⟨G, g, dr, tk', os⟩, _, .ref C, some d, rfl, J, fun b o q => ?_, ge, hoe, ⟨hc, hd⟩, hdat, h1, none_e, rfl, I1.bare, raises_own T.sub T.tyC, q1 d (I1.hok.fresh mk.late)⟩
  have q0 : G.get? b = some o := q
  have hb : b ≠ e := fun z => by
    rw [z, ge] at q0
    cases q0
  exact (gk b hb).symm.trans q0
def gRaise (Fa : Rho → M Sv) (ρ : Rho) : M Out := (Fa ρ).bind fun s => M.thr ⟨"NoTable", some ("pair", s)⟩
theorem s_raise (T : TL X.K X.mg C f) (hc : X.calm = true) (hr : Room k X.A) (tk : Takes X (fun cls d _ H => E cls d H)) (ha : PX X E a Fa) (hg : Gl X "NoTable" := by rfl) (he : starEach (a :: []) X.env = (false, eval a X.env) :: starEach [] X.env := by rfl) (hpl : (backTo pos (starEach [] X.env)).any (·.1) = false := by rfl) :
    PSX X E (.Raise (some (.Call (.Name "NoTable" p) [a] [] pos)) none pos2) (gRaise Fa) := ps_weak (ps_raise hc tk (pmk_tl T hr (pa_cons ha pa_nil he) hg he hpl)) fun D σ H ⟨W, ρ, μ, r, h, e, q⟩ => by
  refine tX_bind h e q fun v s W1 H1 μ1 g1 h1 rs e1 q1 => ⟨v, rfl, fun d hd => ?_⟩
  cases e1
  exact q1 W1 _ (.ref C) (some d) ((Grow.refl _ _ _).out hd fun b hb => upd_ne hb) (h1.rel.lay hd) ⟨⟨C, T.nC, rfl⟩, d, v, rfl, upd_same, rs⟩
end
end Err_NoTable
namespace Err_BadPushes
/-! ### an error of the program's own, with one field -/
section
open PySem.W PySem.Calls PySem.HandSPX
def tlArgs (a b : Pos) : Arguments := { vararg := none, kwarg := none, posonlyargs := [], kwonlyargs := [], kw_defaults := [], defaults := [], args := [{ arg := "self", annotation := none, pos := a }, { arg := "index", annotation := none, pos := b }] }
def tlBody (a b c d : Pos) : List Stmt := [.Assign [.Attribute (.Name "self" a) "index" b] (.Name "index" c) d]
def tlScope : Scope := { isGenerator := false, isCoroutine := false, more := [], kind := .function, names := [(PySem.Str.ofString "self", .local), (PySem.Str.ofString "index", .local)] }
/-- what stands of the class, at C, its __init__ at f -/
structure TL (K : Frag) (mg : Str → Option Value) (C f : Addr) : Prop where
  nC : nsIn K mainGlobals "BadPushes" = some (some (.ref C))
  gC : mg "BadPushes" = some (.ref C)
  ob : ∃ nm q N bs bm sn sub ab col dd m0 m1 m2 m3 m5, K.lookup C = some (excClassObj nm q C N bs bm true sn sub ab col dd m0 m1 m2 m3 m5 "ValueError.__new__") ∧ refsVE bm = true
  f_set : findIn K (.ref C) "__setattr__" = some (some (.builtin "object.__setattr__"))
  f_get : findIn K (.ref C) "__getattribute__" = some (some (.builtin "BaseException.__getattribute__"))
  f_at : findIn K (.ref C) "__getattr__" = some none
  f_fld : findIn K (.ref C) "index" = some none
  f_ini : findIn K (.ref C) "__init__" = some (some (.ref f))
  f_cls : findIn K (.ref C) "__class__" = some (some (.builtin "object.__class__"))
  s_get : specialIn K (.builtin "object.__class__") "__get__" = some (some (.builtin "getset_descriptor.__get__"))
  tk : takesIn K (.builtin "object.__class__") = some true
  mro : mroIn K C (.type "object") = some true
  tyF : typeIn K (.ref f) = some (.type "function")
  kp : keepIn K (.ref C) = true
  sub : subIn K (.ref C) (.type "BaseException") = some true
  tyC : typeIn K (.ref C) = some (.type "type")
  dct : hasDictIn K C = true
  fn : ∃ (oc : Value) (od : Option Addr) (kV doc pm : Value) (an : Option Addr) (cdv ct : Value) (osl : Array (Option Value)) (p1 p2 q1 q2 q3 q4 : Pos),
    K.lookup f = some ⟨oc, od, .func (fnOf "__init__" "BadPushes.__init__" (tlArgs p1 p2) (tlBody q1 q2 q3 q4) tlScope .none kV doc pm an cdv ct), osl⟩ ∧ codeIn K cdv "BadPushes.__init__" = true
theorem sz_one (v : Value) : [v].length ≤ sizeLine := by
  rw [sizeLine_eq]
  show 1 ≤ 16777216
  decide
theorem ld_param {M : Model} {s : Shared} {nm : Str} {sc : Scope} {L a : Addr} {cdv : Value} {m : Str → Option Value} {y : Str} {pos : Pos} {v : Value} {Q : Value → Shared → Prop} {A : Around} {E : Value → Shared → Prop} (hn : s.heap.Ns L m) (hv : m y = some v) (h : Q v s)
    (hk : sc.kind = .function := by rfl) (hl : (envOfC nm sc L a cdv).kindOf y = some .local := by rfl) (hd : (y == ("__debug__" : Str)) = false := by decide) : wpAny M A (eval (.Name y pos) (envOfC nm sc L a cdv)) Q E s := by
  refine wpAny_Name (wpAny_loadName_local hk hl hn hv h) hd
/-- behind __init__ -/
structure TlEnd (h h' : Heap) (x C dx t1 : Addr) (v : Value) : Prop where
  rest : ∀ b o, b ≠ x → h.get? b = some o → h'.get? b = some o
  self : h'.get? x = some { cls := .ref C, data := .fields #[.ref t1, .none, .none, .none, .bool false, .none], dict := some dx }
  late : h.objs.size ≤ dx
  apart : dx ≠ x
  fld : h'.Ns1 dx (fun y => if y = "index" then some v else none)
/-- behind the making -/
structure TlMade (h h' : Heap) (e C d : Addr) (v : Value) : Prop where
  rest : ∀ b o, h.get? b = some o → h'.get? b = some o
  new : h.objs.size ≤ e
  self : ∃ oe vs, h'.get? e = some oe ∧ oe.cls = .ref C ∧ oe.dict = some d ∧ oe.data = .fields vs ∧ vs[1]? = some .none
  late : h.objs.size ≤ d
  apart : d ≠ e
  fld : h'.Ns1 d (fun y => if y = "index" then some v else none)
variable {prog : Program} {w : World} {A : Around} {E : Value → Shared → Prop} {R : Result → Shared → Prop} {s : Shared} {K : Frag} {mg : Str → Option Value} {C f : Addr}
theorem tl_init (T : TL K mg C f) {x t0 : Addr} {v : Value} (X : K.In s.heap) (lim : s.heap.NoLimit) (hx : s.heap.get? x = some (excO C t0)) (room : A.depth < recursionLimit)
    (fin : ∀ h' tk dx, TlEnd s.heap h' x C dx t0 v → R (.ok (.ret .none)) { s with heap := h', toks := tk }) : codeAny (model prog w) A (.call (.ref f) ⟨[.ref x, v], []⟩) R s := by
  obtain ⟨oc, od, kV, doc, pm, an, cdv, ct, osl, p1, p2, q1, q2, q3, q4, ho, hcd⟩ := T.fn
  obtain ⟨nm, q, N, bs, bm, sn, sub, ab, col, dd, m0, m1, m2, m3, m5, hC, hbm⟩ := T.ob
  have cd : clsIn K C = some { name := nm, bases := bs, mro := .ref C :: bm, ns := N, qualname := q, hasDict := true, slotNames := sn, subclasses := sub, abstract := ab, collection := col, hasDel := false } := by
    unfold clsIn
    rw [hC] <;> rfl
  refine Att.call_fn (binds := [("self", .ref x), ("index", v)]) X lim ho hcd room (BindsTo.of_eq (by first | rfl | with_unfolding_all rfl)) (by first | rfl | decide | with_unfolding_all rfl) (fun s₁ ic => ?_) rfl rfl rfl
  obtain ⟨h₁, tk₁, rfl⟩ := ic.toInCall.same
  have keep := ic.toInCall.keep
  have ns := ic.toInCall.ns
  have X₁ : K.In h₁ := X.keeps keep
  have hx₁ := keep _ _ hx
  show wpAny _ _ (execs _ _) _ _ _
  refine wpAny_execs_cons (plainObj_wpAny_Assign_Attribute (ld_param (v := v) ns (by first | rfl | with_unfolding_all rfl | kernel_rfl) (ld_param (v := .ref x) ns (by first | rfl | with_unfolding_all rfl | kernel_rfl) ?_)))
  refine set_plain X₁ (ox := excO C t0) (od := none) ⟨hx₁, rfl, rfl, trivial⟩ T.f_set (exc_osa X₁ hx₁ cd (show refsVE (.ref C :: bm) = true from hbm) rfl T.f_fld (fun h₃ tk₃ dx k₃ dn dne hx₃ hn₃ => ?_))
  have lt : s.heap.objs.size < h₁.objs.size := ns.lt
  show wpAny _ _ (execs _ _) _ _ _
  exact wpAny_execs_nil (fin h₃ tk₃ dx ⟨fun b o hb e => k₃ b o hb (keep b o e), hx₃, Nat.le_of_lt (Nat.lt_of_lt_of_le lt dn), dne, hn₃⟩)
theorem tl_made (T : TL K mg C f) {v : Value} (X : K.In s.heap) (lim : s.heap.NoLimit) (room : A.depth + 1 < recursionLimit) (fin : ∀ h' tk e d, TlMade s.heap h' e C d v → R (.ok (.ret (.ref e))) { s with heap := h', toks := tk }) :
    codeAny (model prog w) A (.call (.ref C) ⟨[v], []⟩) R s := by
  obtain ⟨nm, q, N, bs, bm, sn, sub, ab, col, dd, m0, m1, m2, m3, m5, hC, hbm⟩ := T.ob
  obtain ⟨hp, g, dr, tk, os⟩ := s
  have keep : ∀ b o, hp.get? b = some o → ((hp.push (kdv_tup [v])).push (excO C hp.objs.size)).get? b = some o := fun b o e => Heap.get?_push_of_some _ (Heap.get?_push_of_some _ e)
  have at_ : ((hp.push (kdv_tup [v])).push (excO C hp.objs.size)).get? (hp.objs.size + 1) = some (excO C hp.objs.size) := by heap_get
  refine call_own F.excBase_ValueError (fun Y => refsVE_contains Y bm hbm) (X _ _ hC) (looks_findIn X T.f_ini) (fun self => bind_fn X self T.tyF) (sz_one v) ?_
  refine tl_init (s := ⟨(hp.push (kdv_tup [v])).push (excO C hp.objs.size), g, dr, tk, os⟩) T (X.keeps keep) (lim.keeps keep) at_ (show A.depth + 1 < recursionLimit from room) fun h' tk' dx ⟨k', hx, dn, dne, hns⟩ => ?_
  have old : ∀ b o, hp.get? b = some o → h'.get? b = some o := fun b o e => k' b o (Nat.ne_of_lt (Nat.lt_succ_of_lt (Heap.lt_size e))) (keep b o e)
  have z : hp.objs.size + 1 + 1 ≤ dx := by
    first
      | (simpa only [Heap.size_push] using dn)
      | exact dn
      | (have q := dn; rw [Heap.size_push, Heap.size_push] at q; exact q)
  refine ⟨rfl, fin h' tk' (hp.objs.size + 1) dx ⟨old, Nat.le_succ _, ⟨_, _, hx, rfl, rfl, rfl, rfl⟩, Nat.le_trans (Nat.le_trans (Nat.le_succ _) (Nat.le_succ _)) z, dne, hns⟩⟩
end
theorem rel_bound {v : V} {v' : Value} (r : RelV v v') (g : Str) : RelO (List.lookup g [(("index" : Str), v)]) (if g = "index" then some v' else none) := by
  by_cases h : g = "index"
  · subst h
    rw [if_pos rfl, show List.lookup ("index" : Str) [(("index" : Str), v)] = some v by simp [List.lookup]]
    exact r
  · rw [if_neg h, show List.lookup g [(("index" : Str), v)] = none by
      have n : (g == ("index" : Str)) = false := by simpa using h
      simp [List.lookup, n]]
    trivial
section
variable {X : Cx} {E : XK} {C f : Addr} {k : Nat} {a e : Expr} {es : List Expr} {Fa : Rho → M Sv} {Fs Fk : Rho → M (List Sv)} {p pos pos2 : Pos}
def mkTl (C : Addr) (ta : TA) : L2.St → Hp → XK → Prop := fun σ H Q => ta σ H fun vs H1 => ∃ v, vs = [v] ∧ ∀ d, H1 d = none → Q (.ref C) (some d) (upd H1 d (.xd [(("index" : Str), v)]))
theorem pmk_tl {ta : TA} (T : TL X.K X.mg C f) (hr : Room k X.A) (ha : PA X [a] ta) (hg : Gl X "BadPushes" := by rfl) (he : starEach (a :: []) X.env = (false, eval a X.env) :: starEach [] X.env := by rfl) (hpl : (backTo pos (starEach [] X.env)).any (·.1) = false := by rfl) :
    PMk X (.Call (.Name "BadPushes" p) [a] [] pos) (mkTl C ta) := by
  intro pins s σ H Q I h
  refine wpAny_Call_Name_kw (ld_glob I hg T.gC (PySem.W.callWith_K (h₀ := X.base) I.ok.mod.kin T.kp (thn (ha.run pos pins s σ H _ I h) fun us s1 ⟨vs, H1, I1, r1, v, ev, q1⟩ => ⟨I1.kIn, ?_⟩) he hpl))
  subst ev
  obtain ⟨u, rfl, rv⟩ := vals1 r1
  show wpAny _ _ (call (.ref C) [u]) _ _ _
  have lim := I1.nolimit
  obtain ⟨hp, g, dr, tk, os⟩ := s1
  refine wpAny_call (tl_made T I1.kIn lim (by have := hr.dp; omega) fun h' tk' e d mk => ?_)
  show MkP X pins σ Q (.ref e) ⟨h', g, dr, tk', os⟩
  obtain ⟨oe, fv, hoe, hc, hd, hdat, h1⟩ := mk.self
  obtain ⟨G, g1, g2⟩ := restrict h' fun b => decide (b ≠ e)
  have gk : ∀ b, b ≠ e → G.get? b = h'.get? b := fun b hb => g1 b (decide_eq_true hb)
  have ge : G.get? e = none := g2 e (by simp)
  have old : ∀ b o, hp.get? b = some o → G.get? b = some o := fun b o q => (gk b (Nat.ne_of_lt (Nat.lt_of_lt_of_le (Heap.lt_size q) mk.new))).trans (mk.rest b o q)
  have ob : ObjOk X.prog X.w (upd H1 d (.xd [(("index" : Str), v)])) G d (.xd [(("index" : Str), v)]) := ⟨_, mk.fld.at (fun o q => (gk d mk.apart).trans q), fun g => rel_bound rv g⟩
  have J : Inv X pins σ (upd H1 d (.xd [(("index" : Str), v)])) ⟨G, g, dr, tk', os⟩ := I1.laid (t' := tk') old mk.late ob
  have none_e : upd H1 d (.xd [(("index" : Str), v)]) e = none := by
    rw [upd_ne (Ne.symm mk.apart)]
    exact I1.hok.fresh mk.new
  refine ⟨e, oe, fv, ⟨G, g, dr, tk', os⟩, _, .ref C, some d, rfl, J, fun b o q => ?_, ge, hoe, ⟨hc, hd⟩, hdat, h1, none_e, rfl, I1.bare, raises_own T.sub T.tyC, q1 d (I1.hok.fresh mk.late)⟩
  have q0 : G.get? b = some o := q
  have hb : b ≠ e := fun z => by
    rw [z, ge] at q0
    cases q0
  exact (gk b hb).symm.trans q0
def gRaise (Fa : Rho → M Sv) (ρ : Rho) : M Out := (Fa ρ).bind fun s => M.thr ⟨"BadPushes", some ("index", s)⟩
theorem s_raise (T : TL X.K X.mg C f) (hc : X.calm = true) (hr : Room k X.A) (tk : Takes X (fun cls d _ H => E cls d H)) (ha : PX X E a Fa) (hg : Gl X "BadPushes" := by rfl) (he : starEach (a :: []) X.env = (false, eval a X.env) :: starEach [] X.env := by rfl) (hpl : (backTo pos (starEach [] X.env)).any (·.1) = false := by rfl) :
    PSX X E (.Raise (some (.Call (.Name "BadPushes" p) [a] [] pos)) none pos2) (gRaise Fa) := ps_weak (ps_raise hc tk (pmk_tl T hr (pa_cons ha pa_nil he) hg he hpl)) fun D σ H ⟨W, ρ, μ, r, h, e, q⟩ => by
  refine tX_bind h e q fun v s W1 H1 μ1 g1 h1 rs e1 q1 => ⟨v, rfl, fun d hd => ?_⟩
  cases e1
  exact q1 W1 _ (.ref C) (some d) ((Grow.refl _ _ _).out hd fun b hb => upd_ne hb) (h1.rel.lay hd) ⟨⟨C, T.nC, rfl⟩, d, v, rfl, upd_same, rs⟩
end
end Err_BadPushes
end Pf

set_option maxHeartbeats 1000000
namespace Pf
open PySem PySem.Spec PyProof.Rows L2
/-! ### a def that is given a caught error -/
theorem mark_same {A : Around} {v : Value} (h : A.handled = some v) : A.mark (some v) = A := by
  cases A
  cases h
  rfl
/-- the room that a call within a suite has -/
structure RoomS (k : Nat) (A : Around) : Prop where
  dp : A.depth + 3 * k + 5 < recursionLimit
  un : A.units + 16 * k + 200 < cLine
/-- what such a def wants of its argument, and gives -/
structure Gw (P : Program) (w : World) (K : PySem.W.Frag) (mg : Str → Option Value) (base : Heap) (CX : CXT) (k : Nat) (f : Addr) (fd : FuncData) (ps : List Str) (C : Addr) (fl : Str) : Prop where
  grun : ∀ (A : Around) (below : List Env) (s : Shared) (H : Hp) (ar : Args) (Q : VK) (E : XK) (a dd : Addr) (oe : Obj) (v : V), RoomS k A → A.handled = some (.ref a) → L2H.PinOk below H s (a, oe) → Zc (.ref C) (some dd) oe → (∃ vs, oe.data = .fields vs) → Env0 P w K mg base A below s H → BindsTo s fd ar (ps.zip [.ref a]) →
    H dd = some (.xd [(fl, v)]) → (∀ t o p, H t = none → upd H t o p = none → Q (.ref p) (upd (upd H t o) p (.lst [v]))) → codeAny (model P w) A (.call (.ref f) ar) (CR CX below P w H s Q E) s
section
variable {P : Program} {w : World} {K : PySem.W.Frag} {mg : Str → Option Value} {base : Heap} {k : Nat} {f C : Addr} {fd : FuncData} {x qual fl : Str} {st : Stmt} {N ps : List Str}
theorem gw_of (F : Fun K x qual st f fd) (S : FnScope N ps (defScope st)) (hps : ps.length = 1)
    (body : ∀ (cdv : Value) (A : Around) (below : List Env) (s : Shared) (H : Hp) (Q : VK) (E : XK) (a dd : Addr) (oe : Obj) (v : V), RoomS k (bx P w K mg base N qual st f cdv A below s H E).A → Zc (.ref C) (some dd) oe → (∃ vs, oe.data = .fields vs) → H dd = some (.xd [(fl, v)]) → (∀ t o p, H t = none → upd H t o p = none → Q (.ref p) (upd (upd H t o) p (.lst [v]))) →
      ∃ t, PSs ((bx P w K mg base N qual st f cdv A below s H E).suite a [(a, oe)]) (defBody st) t ∧ t { nx := fun _ H' => Q .non H', rt := Q } (L2.start N [.ref a]) H) : Gw P w K mg base (L2.CX P w) (k + 1) f fd ps C fl := by
  obtain ⟨oc, od, kV, doc, pm, an, cdv, ct, osl, rfl, lk, hcd⟩ := F.ex
  refine ⟨fun A below s H ar Q E a dd oe v hr hh hp hz hf e0 hb hd hq => ?_⟩
  have inK : K.In s.heap := e0.mod.kin.keeps fun b o e => And.left (e0.bs b o e)
  have roomy : s.heap.NoLimit := e0.mod.nolimit.keeps fun b o e => And.left (e0.bs b o e)
  have kinds : ∀ y ∈ ps.zip [Value.ref a], (defScope st).names.lookup y.1 = some .local ∨ ((defScope st).names.lookup y.1 = some .cell ∧ ((cellsFrom (s.heap.objs.size + 1) (defScope st).names []).lookup y.1).isSome = true) := by
    intro ⟨n, u⟩ hy
    rcases S.par n (List.of_mem_zip hy).1 with z | z
    · exact .inl z
    · exact .inr ⟨z, PySem.W.cellsFrom_some _ _ _ (.inl z)⟩
  have deep : A.depth < recursionLimit := by
    have := hr.dp
    omega
  refine codeAny_call_function deep (inK _ _ lk) rfl S.co S.gen rfl (PySem.W.codeRec_of inK hcd) (hb _ _ _ _ ?_)
  refine wpAny_newFunctionEnv_cells S.kind kinds ?_
  intro env he s1 made
  subst he
  refine ⟨roomy.keeps made.toInCall.keep, codeAny_func ?_⟩
  have room2 : RoomS k (bx P w K mg base N qual st f cdv A below s H E).A := ⟨by have := hr.dp; show A.depth + 1 + 3 * k + 5 < _; omega, by have := hr.un; show A.units + 3 + 16 * k + 200 < _; omega⟩
  obtain ⟨t, ht, hq2⟩ := body cdv A below s H Q E a dd oe v room2 hz hf hd hq
  have J0 := L2H.inv_startH (CX := L2.CX P w) (E := E) S hp e0 (vs := [.ref a]) (us := [Value.ref a]) (by rw [hps]; rfl) (.cons rfl .nil) made
  have mk : (A.deeper (envOfC qual (defScope st) s.heap.objs.size f cdv)).mark (some (.ref a)) = A.deeper (envOfC qual (defScope st) s.heap.objs.size f cdv) := mark_same hh
  have I0 : Inv ((bx P w K mg base N qual st f cdv A below s H E).suite a [(a, oe)]) [] (L2.start N [.ref a]) H s1 := by
    have ok := J0.ok
    exact ⟨⟨ok.mod, ok.kind, ok.glob, ok.blt, ok.above, ok.inj, ok.has, ok.cab, (fun z => absurd (show false = true from z) Bool.false_ne_true), ok.frames, ok.stk, ok.exf, ok.bs, ok.bsz, ok.noex, ok.exfs, ok.funs, ok.frf⟩, J0.os, J0.bare, J0.base, J0.loc, J0.cell, J0.free, J0.freeC, J0.pin, J0.hok, J0.len⟩
  have run := ht.run [] s1 (L2.start N [.ref a]) H _ I0 hq2
  have run' : wpAny (model P w) ((A.deeper (envOfC qual (defScope st) s.heap.objs.size f cdv)).mark (some (.ref a))) (execs (defBody st) (envOfC qual (defScope st) s.heap.objs.size f cdv)) _ _ s1 := run
  rw [mk] at run'
  refine wpAny_mono run' ?_ fun _ _ z => z.elim
  intro fl s2 hs
  have done : ∀ {σ' : L2.St} {H' : Hp} {v : V} {u : Value}, Inv ((bx P w K mg base N qual st f cdv A below s H E).suite a [(a, oe)]) [] σ' H' s2 → RelV v u → Q v H' → CE below P w H s Q u s2 := fun J rel q => ⟨_, _, J.os, J.bare, J.base, J.hok, rel, q⟩
  cases fl with
  | brk =>
    obtain ⟨_, _, _, z⟩ := hs
    exact z.elim
  | cont =>
    obtain ⟨_, _, _, z⟩ := hs
    exact z.elim
  | ret u =>
    obtain ⟨v, σ', H', J, rel, q⟩ := hs
    exact done J rel q
  | next =>
    obtain ⟨σ', H', J, q⟩ := hs
    exact done (v := V.non) (u := Value.none) J rfl q
end
/-! ### isinstance of it -/
def clsV : V → Option Value
  | .ref a => some (.ref a)
  | .ty n => some (.type n)
  | _ => none
theorem cls_rel {c : V} {u cv : Value} (h : clsV c = some cv) (r : RelV c u) : u = cv := by
  cases c <;> first | (cases h; exact r) | cases h
def clsVs : List V → Option (List Value)
  | [] => some []
  | c :: cs => (clsV c).bind fun v => (clsVs cs).map (v :: ·)
theorem clss_rel : ∀ {cs : List V} {us cvs : List Value}, clsVs cs = some cvs → Vals cs us → us = cvs
  | [], _, _, h, .nil => by
    cases h
    rfl
  | c :: cs, _, cvs, h, .cons r rs => by
    have h' : ((clsV c).bind fun v => (clsVs cs).map (v :: ·)) = some cvs := h
    cases hc : clsV c with
    | none =>
      rw [hc] at h'
      cases h'
    | some v =>
      rw [hc] at h'
      cases hs : clsVs cs with
      | none =>
        have h2 : (clsVs cs).map (v :: ·) = some cvs := h'
        rw [hs] at h2
        cases h2
      | some vs =>
        have h2 : (clsVs cs).map (v :: ·) = some cvs := h'
        rw [hs] at h2
        cases h2
        rw [cls_rel hc r, clss_rel hs rs]
def rIsN (K : PySem.W.Frag) (C a : Addr) (cls : Value) (d : Option Addr) : List V → Hp → VK → Prop := fun xs H Q => ∃ (dd : Addr) (fs : List (Str × V)) (t : Addr) (cs : List V) (cvs : List Value) (b : Bool), cls = .ref C ∧ d = some dd ∧ H dd = some (.xd fs) ∧ xs = [.ref a, .ref t] ∧ H t = some (.tup cs) ∧ clsVs cs = some cvs ∧ PySem.W.kitAny K (.ref C) cvs = some b ∧ Q (.bl b) H
section
variable {X : Cx} {C f : Addr} {k : Nat}
theorem nt_kit {od : Option Obj} {x : Addr} {ox : Obj} (T : Err_NoTable.TL X.K X.mg C f) : PySem.W.KitX X.K (.ref x) (.ref C) (fun h => PySem.W.InstAt h x ox C od) := by
  refine PySem.W.kitx_exc ?_ T.f_get T.f_at T.sub T.f_cls T.s_get T.tk T.mro
  obtain ⟨cd, hc, _⟩ := PySem.W.any_some T.dct
  rw [hc]
  rfl
theorem nt_is1 {a : Addr} {oe : Obj} {cls : Value} {d : Option Addr} {pn : List (Addr × Obj)} (T : Err_NoTable.TL X.K X.mg C f) (hz : Zc cls d oe) (hf : ∃ vs, oe.data = .fields vs) : CallR (X.suite a ((a, oe) :: pn)) (.builtin "isinstance") (rIs1 X.K C a cls d) := by
  intro pins s σ H xs us Q I r ⟨dd, fs, C1, b, e1, e2, hd, e3, hk, q⟩
  subst e1 e2 e3
  obtain ⟨u, u2, rfl, r1, r2⟩ := vals2 r
  cases r1
  cases r2
  obtain ⟨od, J⟩ := held_at I hz hf hd
  exact PySem.W.kia_one (nt_kit T) I.kIn J hk (fun z => nomatch z) fun tk => ⟨.bl b, H, I.kept (t' := tk) fun _ _ z => z, rfl, q⟩
theorem nt_isN {a : Addr} {oe : Obj} {cls : Value} {d : Option Addr} {pn : List (Addr × Obj)} (T : Err_NoTable.TL X.K X.mg C f) (hz : Zc cls d oe) (hf : ∃ vs, oe.data = .fields vs) : CallR (X.suite a ((a, oe) :: pn)) (.builtin "isinstance") (rIsN X.K C a cls d) := by
  intro pins s σ H xs us Q I r ⟨dd, fs, t, cs, cvs, b, e1, e2, hd, e3, ht, hcs, hk, q⟩
  subst e1 e2 e3
  obtain ⟨u, u2, rfl, r1, r2⟩ := vals2 r
  cases r1
  cases r2
  obtain ⟨od, J⟩ := held_at I hz hf hd
  obtain ⟨its, rv, ⟨⟨cl, dc, dt, sl⟩, ho, hc, n, hdt⟩, _⟩ := I.tuple (SqT.of ht)
  have e := clss_rel hcs rv
  subst e
  simp only at hc hdt
  subst hc hdt
  exact PySem.W.kia_tup (nt_kit T) I.kIn J ho hk (fun z => nomatch z) fun tk => ⟨.bl b, H, I.kept (t' := tk) fun _ _ z => z, rfl, q⟩
/-- the classes that _law_word names -/
structure WordZ (K : PySem.W.Frag) (mg : Str → Option Value) (C f c1 c2 c3 c4 c5 : Addr) : Prop where
  tl : Err_NoTable.TL K mg C f
  g1 : mg "BadWindows" = some (.ref c1)
  g2 : mg "Conflict" = some (.ref c2)
  g3 : mg "Misfit" = some (.ref c3)
  g4 : mg "NoLast" = some (.ref c4)
  g5 : mg "TooLarge" = some (.ref c5)
  gL : mg "LookupError" = none
  k0 : PySem.W.kitOne K (.ref C) (.ref C) = some true
  k1 : PySem.W.kitAny K (.ref C) [.ref c1, .ref c2, .ref c3, .ref c4, .ref c5, .type "LookupError"] = some false
theorem word_ok {a dd c1 c2 c3 c4 c5 : Addr} {oe : Obj} {v : V} {Q : VK} {H : Hp} {pn : List (Addr × Obj)} {p0 p1 p2 p3 p4 p5 p6 p7 p8 p9 p10 p11 q1 q2 q3 q4 q5 q6 q7 q8 q9 q10 q11 q12 q13 q14 : Pos} {kk jj : Nat} (Z : WordZ X.K X.mg C f c1 c2 c3 c4 c5)
    (hN : X.N = [("_law_error" : Str), ("_law_others" : Str)]) (ve : Vis X.env.scope "_law_error") (vo : Vis X.env.scope "_law_others") (lo : Loc X.env.scope "_law_others") (fo : X.fn "_law_others" = true ∨ X.env.scope.names.lookup ("_law_others" : Str) = some NameKind.local)
    (gI : Gl X "isinstance") (mI : X.mg "isinstance" = none) (h1 : Gl X "BadWindows") (h2 : Gl X "Conflict") (h3 : Gl X "Misfit") (h4 : Gl X "NoLast") (h5 : Gl X "TooLarge") (h6 : Gl X "LookupError") (h7 : Gl X "NoTable")
    (hz : Zc (.ref C) (some dd) oe) (hf : ∃ vs, oe.data = .fields vs) (hd : H dd = some (.xd [("pair", v)])) (hq : ∀ t o p, H t = none → upd H t o p = none → Q (.ref p) (upd (upd H t o) p (.lst [v]))) :
    ∃ t, PSs (X.suite a ((a, oe) :: pn)) [.Assign [.Name "_law_others" p0] (.Call (.Name "isinstance" p1) [.Name "_law_error" p2, .Tuple [.Name "BadWindows" p3, .Name "Conflict" p4, .Name "Misfit" p5, .Name "NoLast" p6, .Name "TooLarge" p7, .Name "LookupError" p8] kk p9] [] p10) p11,
      .Return (some (.IfExp (.BoolOp .And [.Call (.Name "isinstance" q1) [.Name "_law_error" q2, .Name "NoTable" q3] [] q4, .UnaryOp .Not (.Name "_law_others" q5) q6] q7) (.List [.Attribute (.Name "_law_error" q8) "pair" q9] q10) (.List [.Constant (.str "other") jj q11] q12) q13)) q14] t ∧ t { nx := fun _ H' => Q .non H', rt := Q } (L2.start X.N [.ref a]) H := by
  have nd : X.N.Nodup := by rw [hN]; decide
  have i0 : X.N[0]? = some ("_law_error" : Str) := by rw [hN]; rfl
  have i1 : X.N[1]? = some ("_law_others" : Str) := by rw [hN]; rfl
  have nm : PE (X.suite a ((a, oe) :: pn)) (.Name "_law_error" p2) (tVar 0) := pe_var i0 ve
  have nm2 : PE (X.suite a ((a, oe) :: pn)) (.Name "_law_error" q2) (tVar 0) := pe_var i0 ve
  have nm3 : PE (X.suite a ((a, oe) :: pn)) (.Name "_law_error" q8) (tVar 0) := pe_var i0 ve
  have no : PE (X.suite a ((a, oe) :: pn)) (.Name "_law_others" q5) (tVar 1) := pe_var i1 vo
  have b1 : PE (X.suite a ((a, oe) :: pn)) (.Name "BadWindows" p3) (tC (.ref c1)) := pe_glob h1 Z.g1 rfl
  have b2 : PE (X.suite a ((a, oe) :: pn)) (.Name "Conflict" p4) (tC (.ref c2)) := pe_glob h2 Z.g2 rfl
  have b3 : PE (X.suite a ((a, oe) :: pn)) (.Name "Misfit" p5) (tC (.ref c3)) := pe_glob h3 Z.g3 rfl
  have b4 : PE (X.suite a ((a, oe) :: pn)) (.Name "NoLast" p6) (tC (.ref c4)) := pe_glob h4 Z.g4 rfl
  have b5 : PE (X.suite a ((a, oe) :: pn)) (.Name "TooLarge" p7) (tC (.ref c5)) := pe_glob h5 Z.g5 rfl
  have b6 : PE (X.suite a ((a, oe) :: pn)) (.Name "LookupError" p8) (tC (.ty "LookupError")) := pe_bltn h6 Z.gL (by decide +kernel) rfl
  have b7 : PE (X.suite a ((a, oe) :: pn)) (.Name "NoTable" q3) (tC (.ref C)) := pe_glob h7 Z.tl.gC rfl
  have w1 : PE (X.suite a ((a, oe) :: pn)) (.Call (.Name "isinstance" p1) [.Name "_law_error" p2, .Tuple [.Name "BadWindows" p3, .Name "Conflict" p4, .Name "Misfit" p5, .Name "NoLast" p6, .Name "TooLarge" p7, .Name "LookupError" p8] kk p9] [] p10) _ := pe_callB (nt_isN Z.tl hz hf) gI mI PyProof.Rows.boot_isinstance (pa_cons nm (pa_cons (pe_tup (pa_cons b1 (pa_cons b2 (pa_cons b3 (pa_cons b4 (pa_cons b5 (pa_cons b6 pa_nil))))))) pa_nil))
  have s1 : PS (X.suite a ((a, oe) :: pn)) (.Assign [.Name "_law_others" p0] (.Call (.Name "isinstance" p1) [.Name "_law_error" p2, .Tuple [.Name "BadWindows" p3, .Name "Conflict" p4, .Name "Misfit" p5, .Name "NoLast" p6, .Name "TooLarge" p7, .Name "LookupError" p8] kk p9] [] p10) p11) _ := ps_set (X := X.suite a ((a, oe) :: pn)) nd i1 lo w1 rfl fo
  have xf : XfC X.K C := ⟨Z.tl.f_get, Z.tl.f_at, Z.tl.sub, Z.tl.dct⟩
  have is1 : PE (X.suite a ((a, oe) :: pn)) (.Call (.Name "isinstance" q1) [.Name "_law_error" q2, .Name "NoTable" q3] [] q4) _ := pe_callB (nt_is1 Z.tl hz hf) gI mI PyProof.Rows.boot_isinstance (pa_cons nm2 (pa_cons b7 pa_nil))
  have s2 : PS (X.suite a ((a, oe) :: pn)) (.Return (some (.IfExp (.BoolOp .And [.Call (.Name "isinstance" q1) [.Name "_law_error" q2, .Name "NoTable" q3] [] q4, .UnaryOp .Not (.Name "_law_others" q5) q6] q7) (.List [.Attribute (.Name "_law_error" q8) "pair" q9] q10) (.List [.Constant (.str "other") jj q11] q12) q13)) q14) _ :=
    ps_ret (pe_ifExp (pw_and (pt_val is1) (pw_and1 (pt_not (pt_val no)))).pt (pe_lst (pa_cons (pe_xf xf Z.tl.f_fld hz hf nm3) pa_nil)) (pe_lst (pa_cons pe_str pa_nil)))
  refine ⟨_, pss_cons s1 (pss_one s2), ?_⟩
  clear s1 s2 w1 is1 b1 b2 b3 b4 b5 b6 b7 nm nm2 nm3 no
  have e0 : L2.start X.N [V.ref a] = [some (V.ref a), none] := by rw [hN]; rfl
  rw [e0]
  refine ⟨.ref a, rfl, (by show 6 ≤ sizeLine; decide), fun t ht => ?_⟩
  have hd2 : ∀ o, upd H t o dd = some (.xd [("pair", v)]) := fun o => by
    rw [upd_ne (ne_of_none hd ht)]
    exact hd
  refine ⟨dd, _, t, _, _, false, rfl, rfl, hd2 _, rfl, upd_same, rfl, Z.k1, ?_⟩
  refine ⟨.ref a, rfl, dd, _, C, true, rfl, rfl, hd2 _, rfl, Z.k0, true, rfl, ?_⟩
  refine ⟨.bl false, rfl, false, rfl, ?_⟩
  refine ⟨.ref a, rfl, rfl, rfl, dd, _, v, rfl, hd2 _, rfl, (by show 1 ≤ sizeLine; decide), fun p hp => hq t _ p ht hp⟩
end
/-! ### the call within the suite -/
section
variable {X : Cx} {C f : Addr} {fd : FuncData} {k j i : Nat} {ps : List Str} {fl x n : Str} {a : Addr} {oe : Obj} {cls : Value} {d : Option Addr} {pn : List (Addr × Obj)} {p p2 pos : Pos}
def tWord (a : Addr) (cls : Value) (d : Option Addr) (C : Addr) (fl : Str) (i : Nat) : TE := fun σ H Q => σ[i]? = some (some (.ref a)) ∧ cls = .ref C ∧ ∃ dd v, d = some dd ∧ H dd = some (.xd [(fl, v)]) ∧ ∀ t o q, H t = none → upd H t o q = none → Q (.ref q) (upd (upd H t o) q (.lst [v]))
theorem pe_word (F : Gw X.prog X.w X.K X.mg X.base (L2.CX X.prog X.w) k f fd ps C fl) (hps : ps.length = 1) (hr : Room k X.A) (hm : X.mg x = some (.ref f)) (hk : PySem.W.keepIn X.K (.ref f) = true) (hb : Binds X.K fd ps [])
    (hi : X.N[i]? = some n) (hv : Vis X.env.scope n) (hn : (n == ("__debug__" : Str)) = false) (hn2 : (n == ("__classdict__" : Str)) = false) (hz : Zc cls d oe) (hf : ∃ vs, oe.data = .fields vs) (hg : Gl X x) (hdb : (x == ("__debug__" : Str)) = false)
    (he : starEach [.Name n p2] (X.suite a ((a, oe) :: pn)).env = (false, eval (.Name n p2) (X.suite a ((a, oe) :: pn)).env) :: starEach [] (X.suite a ((a, oe) :: pn)).env := by rfl) (hpl : (backTo pos (starEach [] (X.suite a ((a, oe) :: pn)).env)).any (·.1) = false := by rfl) :
    PE (X.suite a ((a, oe) :: pn)) (.Call (.Name x p) [.Name n p2] [] pos) (tWord a cls d C fl i) := by
  have ha : PE (X.suite a ((a, oe) :: pn)) (.Name n p2) (tVar i) := pe_var hi hv hn hn2
  refine ⟨fun pins s σ H Q I ⟨h1, h2, dd, v, h3, h4, h5⟩ => ?_⟩
  subst h2 h3
  refine wpAny_Call_Name_kw (ld_glob I hg hm ?_ hdb)
  refine PySem.W.callWith_K (h₀ := X.base) I.ok.mod.kin hk ?_ he hpl
  have want : tCons (tVar i) tNil σ H fun vs H1 => vs = [.ref a] ∧ H1 = H := ⟨.ref a, h1, rfl, rfl⟩
  refine thn ((pa_cons ha pa_nil he).run pos pins s σ H _ I want) fun us s1 hz' => ?_
  obtain ⟨vs, H1, J, rv, rfl, rfl⟩ := hz'
  refine ⟨J.kIn, ?_⟩
  obtain ⟨u, rfl, ru⟩ := vals1 rv
  cases ru
  have P1 := J.pin (a, oe) (List.mem_append_left _ List.mem_cons_self)
  have hpin : L2H.PinOk (X.suite a ((a, oe) :: pn)).stack H1 s1 (a, oe) := ⟨P1.1, P1.2.1, fun hm => (List.mem_cons.mp (J.stkSub a hm)).elim P1.2.2.1 P1.2.2.2.1, P1.2.2.2.2⟩
  have b := hb s1 [.ref a] J.kIn (by rw [List.append_nil, hps]; rfl)
  rw [List.append_nil] at b
  have room : RoomS k (X.suite a ((a, oe) :: pn)).A := ⟨hr.dp, hr.un⟩
  refine wpAny_call (codeAny_mono (F.grun (X.suite a ((a, oe) :: pn)).A (X.suite a ((a, oe) :: pn)).stack s1 H1 ⟨[.ref a], []⟩ Q (EW X.N.length fun _ _ _ _ => False) a dd oe v room rfl hpin hz hf J.env0 b h4 h5) fun res s2 hc => ?_)
  match res, hc with
  | .error ex, hc => exact passW (X := X.suite a ((a, oe) :: pn)) takes0 pins σ H1 s1 ex s2 J hc
  | .ok (.ret u), hc => exact Inv.after J hc
/-! ### try: return ..; except FallError as e: return word(e) -/
def gTryW (C fl : Str) (G : Rho → M Out) (ρ : Rho) : M Out := fun μ => match G ρ μ with
  | some (.ok (.rt s) μ') => some (.ok (.rt s) μ')
  | some (.ex ⟨c, some (g, s)⟩ μ') => if c = C ∧ g = fl then match mkl false [s] μ' with
    | some (.ok v μ2) => some (.ok (.rt v) μ2)
    | _ => none else none
  | _ => none
theorem s_tryW {E : XK} {CF : Addr} {Cn : Str} {body : List Stmt} {G : Rho → M Out} {np pr pos' post : Pos} (i : Nat) (F : Gw X.prog X.w X.K X.mg X.base (L2.CX X.prog X.w) j f fd ps C fl) (hps : ps.length = 1) (hr : Room k X.A) (hj : j ≤ k) (hm : X.mg x = some (.ref f)) (hk : PySem.W.keepIn X.K (.ref f) = true) (hb : Binds X.K fd ps [])
    (nC : PySem.W.nsIn X.K mainGlobals Cn = some (some (.ref C))) (gF : X.mg "FallError" = some (.ref CF)) (ex : PySem.W.exmOne X.K (.ref C) (.ref CF) = some true)
    (hs : X.stack = X.env :: X.outer) (hf : X.env.frame = some X.env.locals) (hN : X.N.Nodup) (hi : X.N[i]? = some n) (hln : X.env.kindOf n = some .local) (hv : Vis X.env.scope n) (hn : (n == ("__debug__" : Str)) = false) (hn2 : (n == ("__classdict__" : Str)) = false) (gFn : Gl X "FallError") (hg : Gl X x) (hdb : (x == ("__debug__" : Str)) = false)
    (hbd : ∀ (W : WX) (pn : List (Addr × Obj)) (xe : Value → Shared → Prop), Takes (X.tr pn xe) W → PSSX (X.tr pn xe) (EW X.N.length W) body G) :
    PSX X E (.Try body [.ExceptHandler (some (.Name "FallError" np)) (some n) [.Return (some (.Call (.Name x p) [.Name n p2] [] pos)) pr] pos'] [] [] post) (gTryW Cn fl G) := by
  refine ps_weak (ps_try_as (i := i) (tb := fun W => tG X.K (EW X.N.length W) G) (ts := fun a cls d => tRet (tWord a cls d C fl i)) (Wout := fun _ _ _ _ => False) hs hf hN hi hln ⟨gFn, by decide, .inl gF⟩ takes0 (fun W pn xe tk _ => hbd W pn xe tk) (fun a oe cls d pn hz hfl => pss_one (ps_ret (pe_word F hps (hr.mono hj) hm hk hb hi hv hn hn2 hz hfl hg hdb rfl rfl)))) ?_
  intro D σ H ⟨W, ρ, μ, r, h, e, q⟩
  unfold gTryW at e
  cases eg : G ρ μ with
  | none =>
    rw [eg] at e
    cases e
  | some y =>
    rw [eg] at e
    refine ⟨W, ρ, μ, y, h, eg, ?_⟩
    cases y with
    | ok o μ' =>
      cases o with
      | rt s =>
        cases e
        exact q
      | _ => cases e
    | ex c μ' =>
      obtain ⟨c, fld⟩ := c
      cases fld with
      | none => cases e
      | some gs =>
        obtain ⟨g, s⟩ := gs
        dsimp only at e
        split at e
        · rename_i cg
          obtain ⟨rfl, rfl⟩ := cg
          split at e
          · rename_i v μ2 em
            cases e
            intro W1 H1 cls d g1 R1 ⟨⟨C', hC', ec⟩, dd, v1, ed, hd, rv⟩ σ' hl
            rw [nC] at hC'
            cases hC'
            subst ec ed
            refine ⟨true, ex, fun _ a ha => ?_, fun z => nomatch z⟩
            have si : (σ'.set i (some (V.ref a)))[i]? = some (some (.ref a)) := List.getElem?_set_self (by rw [hl]; exact (List.getElem?_eq_some_iff.mp hi).1)
            refine ⟨si, rfl, dd, v1, rfl, hd, fun t o qq ht hqq => ?_⟩
            have R2 : Rel X.K W1 (upd H1 t o) μ' := R1.lay ht
            have g2 : Grow W H μ W1 (upd H1 t o) μ' := g1.trans ((Grow.refl _ _ _).out ht fun b hb => upd_ne hb)
            refine mkl_ok (E := E) R2 hqq (.cons rv .nil) em fun W3 H3 g3 R3 u ru => ?_
            exact q W3 H3 (g2.trans g3) R3 u ru
          · cases e
        · cases e
end
end Pf

set_option maxHeartbeats 1000000
namespace Pf
open PySem PySem.Spec PyProof.Rows L2
def S.tryW (C fl : Str) (t : S PyData) : S PyData := fun k => match t k with
  | some (.ok v, k') => some (.ok v, k')
  | some (.ex ⟨c, some (g, s)⟩, k') => if c = C ∧ g = fl then some (.ok (.list [s]), k') else none
  | _ => none
theorem S.tryW_ret (C fl : Str) (v : PyData) : S.tryW C fl (S.ret v) = S.ret v := by
  funext k
  rfl
theorem S.tryW_thr (C fl : Str) (v : PyData) : S.tryW C fl (S.thr ⟨C, some (fl, v)⟩) = S.ret (.list [v]) := by
  funext k
  exact if_pos ⟨rfl, rfl⟩
section
variable {l : En} {G : Rho → M Out} {t : S PyData} {C fl : Str}
theorem r_tryW (h : Jd l G t pR) : Jd l (gTryW C fl G) (S.tryW C fl t) pR := fun k rest ρ μ e => by
  intro r k' q
  unfold S.tryW at q
  cases et : t k with
  | none =>
    rw [et] at q
    cases q
  | some y =>
    rw [et] at q
    obtain ⟨y, k1⟩ := y
    cases y with
    | ok v =>
      cases q
      obtain ⟨a, μ', h1, h2⟩ := h k rest ρ μ e _ _ et
      obtain ⟨rfl, h3⟩ := h2
      refine ⟨_, μ', ?_, rfl, h3⟩
      unfold gTryW
      rw [h1]
    | ex c =>
      obtain ⟨c, fld⟩ := c
      cases fld with
      | none => cases q
      | some gs =>
        obtain ⟨g, s⟩ := gs
        dsimp only at q
        split at q
        · rename_i cg
          cases q
          obtain ⟨g1, h1⟩ := h k rest ρ μ e _ _ et
          refine ⟨.rt (.dat (.list [s])), _, ?_, rfl, ⟨g1, rfl⟩⟩
          unfold gTryW
          rw [h1]
          show (if c = C ∧ g = fl then _ else _) = _
          rw [if_pos cg]
          rfl
        · cases q
theorem s_parEE (i j : Nat) : Jd l (gPar i j (argC (lstV true argN) (argC (lstV true argN) argN))) (S.ret (([] : List PyData), ([] : List PyData))) (pN fun p => (l.set i (some (.mt p.1))).set j (some (.mt p.2))) := fun k rest ρ μ e => by
  intro r k' q
  cases q
  exact ⟨.nx ((ρ.set i (some (.ref μ.length))).set j (some (.ref (μ ++ [MObj.lst []]).length))), (μ ++ [MObj.lst []]) ++ [MObj.lst []], rfl, _, rfl, (e.setM i []).setM j []⟩
end
end Pf

set_option maxHeartbeats 1000000
namespace Pf
open PySem PySem.Spec PyProof.Rows L2 PySem.W
/-! ### min(l, default=None) over a list of ints -/
section
variable {X : Cx} {E : XK} {a d : Expr} {es : List Expr} {x : Str} {p pos kpos : Pos} {Fa : Rho → M Sv} {Fs Fk : Rho → M (List Sv)}
def minN : List Int → PyData
  | [] => .none
  | n :: r => .int (r.foldl min n)
def bMinN (ss : List Sv) : M Sv := match ss with
  | [s, .dat .none] => (rd s).bind fun d => match d with
    | .list ds => (orFail (asInts ds)).bind fun ns => M.ret (.dat (minN ns))
    | _ => M.fail
  | _ => M.fail
theorem minN_ent {xs : List V} {H : Hp} {Q : VK} (h : rC X.K E bMinN xs H Q) :
    ∃ (a : Addr) (vs : List V) (ns : List Int), xs = [V.ref a, V.non] ∧ H a = some (.lst vs) ∧ Dqs X.K H vs (ns.map PyData.int) ∧ (ns = [] → Q .non H) ∧ ∀ n r, ns = n :: r → Q (.int (r.foldl min n)) H := by
  obtain ⟨W, μ, ss, r, R, rs, e, q⟩ := h
  unfold bMinN at e
  split at e
  · cases rs with
    | cons h rs =>
      cases rs with
      | cons h2 rs =>
        cases rs
        cases h2
        obtain ⟨d, e1, e⟩ := rd_bind e
        obtain ⟨d', z1, h1⟩ := rd_rel R h e1
        cases z1
        split at e
        · obtain ⟨ns, e2, e⟩ := orFail_some e
          cases e
          have z := asInts_eq e2
          subst z
          cases h1 with
          | lst h2 r2 =>
            refine ⟨_, _, ns, rfl, h2, r2, fun z => ?_, fun n r z => ?_⟩
            · subst z
              exact q _ _ (Grow.refl _ _ _) R _ .non
            · subst z
              exact q _ _ (Grow.refl _ _ _) R _ (.int _)
        · cases e
  · cases e
def callKw (op : List Sv → M Sv) (Fs Fk : Rho → M (List Sv)) (ρ : Rho) : M Sv := (Fs ρ).bind fun ss => (Fk ρ).bind fun zs => op (ss ++ zs)
theorem x_minN (hu : X.A.units + 64 < cLine) (ha : PX X E a Fa) (hd : PX X E d (con .none)) (hm : X.mg x = none) (hv : bootBuiltins x = some (.builtin "min")) (hc : X.calm = true := by rfl) (hg : Gl X x := by rfl) (hn : x ≠ "__name__" := by decide) (hdb : (x == ("__debug__" : Str)) = false := by decide)
    (he0 : starEach [a] X.env = (false, eval a X.env) :: starEach [] X.env := by rfl)
    (he : backTo pos (starEach [a] X.env) = (false, eval a X.env) :: backTo pos (starEach [] X.env) := by rfl) (hplain : (backTo pos (starEach [a] X.env)).any (·.1) = false := by rfl)
    (hall : (backToKw pos (keywordEach [⟨some "default", d, kpos⟩] X.env)).all (·.1.isSome) = true := by rfl) (hkw : (backToKw pos (keywordEach [⟨some "default", d, kpos⟩] X.env)).any (·.1.isNone) = false := by rfl) (hks : (backToKw pos (keywordEach [⟨some "default", d, kpos⟩] X.env)).filterMap (·.1) = [Str.ofString "default"] := by rfl) :
    PX X E (.Call (.Name x p) [a] [⟨some "default", d, kpos⟩] pos) (callKw bMinN (argC Fa argN) (argC (con .none) argN)) := by
  constructor
  intro pins s σ H Q I ⟨W, ρ, μ, r, h, e0, q⟩
  have want : tAr X.K E (argC Fa argN) σ H fun vs H1 => tAr X.K E (argC (con .none) argN) σ H1 fun zs H2 => zs = [V.non] ∧ rC X.K E bMinN (vs ++ zs) H2 Q := tAr_bind h e0 q fun vs ss W1 H1 μ1 g1 h1 rs e1 q1 => by
    have e2 : bMinN (ss ++ [.dat .none]) μ1 = some r := e1
    refine ⟨W1, ρ, μ1, .ok [.dat .none] μ1, h1, rfl, fun W2 H2 g2 R2 zs rz => ?_⟩
    cases rz with
    | cons z rz =>
      cases rz
      cases z
      exact ⟨rfl, W2, μ1, _, r, R2, (rs.grow g2).append (.cons (show SvR X.K W2 μ1.length V.non (.dat .none) from Dq.non) .nil), e2, Ko.later g2 q1⟩
  have pa : PAX X E [a] (argC Fa argN) := a_cons ha a_nil he0
  have pk : PKX X E [⟨some "default", d, kpos⟩] (argC (con .none) argN) := k_cons hd k_nil
  refine wpAny_Call_Name_kw (ld_blt I hg hm hv ?_ hn hdb)
  refine callWith_kw (thn (pa.run pos pins s σ H _ I want) fun us s1 ⟨vs, H1, I1, r1, q1⟩ => thn (pk.run pos pins s1 σ H1 _ I1 q1) fun ws s2 ⟨zs, H2, I2, rz, ez, sp⟩ => ?_) he hplain hall hkw
  rw [hks]
  subst ez
  obtain ⟨a', vs', ns, e1, hl, hd', q0, qn⟩ := minN_ent sp
  have ev : vs = [V.ref a'] := List.append_cancel_right (show vs ++ [V.non] = [V.ref a'] ++ [V.non] from e1)
  subst ev
  obtain ⟨u, rfl, ru⟩ := vals1 r1
  obtain ⟨u2, rfl, ru2⟩ := vals1 rz
  cases ru
  cases ru2
  show wpAny _ _ (call (.builtin "min") [.ref a'] [(Str.ofString "default", .none)]) _ _ _
  obtain ⟨its, rv2, ht, hz⟩ := I2.list (SqL.of hl)
  obtain ⟨as, hr, _⟩ := Dqs.reads I2 hd' rv2
  refine min_list_default (vs := its.toArray) (I2.ok.hd hc) ht.isList hr (alike_ints ns) (by rw [depth_int]; omega) (fun z h' tk k => ?_) fun y ys i v h' tk bs z _ rd k => ?_
  · exact ⟨.non, H2, I2.kept k, rfl, q0 (List.map_eq_nil_iff.mp z)⟩
  · cases ns with
    | nil => cases z
    | cons n r =>
      rw [List.map_cons] at z
      injection z with z1 z2
      subst z1 z2
      rw [minD_ints] at rd
      cases rd with
      | int i t => exact ⟨.int _, H2, I2.kept k, ⟨_, rfl⟩, qn n r rfl⟩
/-! ### None not in a tuple -/
def pNotIn (a b : Sv) : M Sv := (rd a).bind fun d => (rd b).bind fun e => match d, e with
  | .none, .tuple ds => if PyData.plainAll ds = true then M.ret (.dat (.bool (!ds.any fun y => PyData.eqv y .none))) else M.fail
  | d, .tuple ds => if (PyData.plainAll ds && (d.plain && decide (d.depth ≤ 60))) = true then M.ret (.dat (.bool (!ds.any fun y => PyData.eqv y d))) else M.fail
  | _, _ => M.fail
theorem o_notin (hu : X.A.units + 64 < cLine) : OpR X (compareOp .NotIn) (rO2 X.K E pNotIn) := by
  intro pins s σ H x y v u Q I rx ry ⟨W, μ, a, b, r, R, ra, rb, e, q⟩
  unfold pNotIn at e
  obtain ⟨d, e1, e⟩ := rd_bind e
  obtain ⟨c, e2, e⟩ := rd_bind e
  obtain ⟨d', z1, h1⟩ := rd_rel R ra e1
  obtain ⟨c', z2, h2⟩ := rd_rel R rb e2
  cases z1
  cases z2
  split at e
  · obtain ⟨g, e⟩ := iff_ok e
    cases e
    obtain ⟨as, r1, _⟩ := Dq.reads I h1 rx
    obtain ⟨bs, r2, _⟩ := Dq.reads I h2 ry
    exact SeqAt.notIn_tuple_data r2 r1 g rfl (by rw [show PyData.depth .none = 0 from by simp only [PyData.depth]]; rw [Nat.min_zero]; omega) ⟨.bl _, H, I, rfl, q _ _ (Grow.refl _ _ _) R _ (.bl _)⟩
  · obtain ⟨g, e⟩ := iff_ok e
    cases e
    obtain ⟨g1, g2⟩ := Bool.and_eq_true_iff.mp g
    obtain ⟨g2, g3⟩ := Bool.and_eq_true_iff.mp g2
    obtain ⟨as, r1, _⟩ := Dq.reads I h1 rx
    obtain ⟨bs, r2, _⟩ := Dq.reads I h2 ry
    exact SeqAt.notIn_tuple_data r2 r1 g1 g2 (by have := of_decide_eq_true g3; omega) ⟨.bl _, H, I, rfl, q _ _ (Grow.refl _ _ _) R _ (.bl _)⟩
  · cases e
/-! ### a, b = a list of that length -/
def gTpL (n : Nat) (U : List Sv → Rho → M Rho) (s : Sv) (ρ : Rho) : M Rho := match s with
  | .dat (.list ds) => if decide (ds.length = n) = true then U (ds.map Sv.dat) ρ else M.fail
  | _ => M.fail
theorem pg_tpL {ts : List Expr} {U : List Sv → Rho → M Rho} {k : Nat} (n : Nat) (hc : X.calm = true) (h : PGsX X E ts U) (hn : (assignEach ts X.env).length = n := by rfl) (hst : (assignEach ts X.env).findIdx? (·.1) = none := by rfl) : PGX X E (.Tuple ts k pos) (gTpL n U) := by
  refine pg_weak (pg_lst hc h hn hst) fun v σ H Q ⟨W, ρ, μ, s, r, h, rs, e, q⟩ => ?_
  unfold gTpL at e
  split at e
  · obtain ⟨c, e⟩ := iff_ok e
    cases rs with
    | lst h1 r1 => exact ⟨_, _, rfl, SqL.of (h.rel.sub _ _ h1), by rw [r1.len]; exact of_decide_eq_true c, W, ρ, μ, _, r, h, rel_dats r1, e, q⟩
  · cases e
end
end Pf

set_option maxHeartbeats 1000000
namespace Pf
open PySem PySem.Spec PyProof.Rows L2
def oMinN : PyData → Option PyData
  | .list ds => (asInts ds).map minN
  | _ => none
def cNotIn (a b : PyData) : Option Bool := match a, b with
  | .none, .tuple ds => if PyData.plainAll ds = true then some (!ds.any fun y => PyData.eqv y .none) else none
  | d, .tuple ds => if (PyData.plainAll ds && (d.plain && decide (d.depth ≤ 60))) = true then some (!ds.any fun y => PyData.eqv y d) else none
  | _, _ => none
section
variable {l l1 : En} {Fa : Rho → M Sv} {ta : S PyData}
theorem bl_minN : Bl1 (fun ss => bMinN (ss ++ [.dat .none])) oMinN := fun a da d μ ra e => by
  show bMinN [a, .dat .none] μ = _
  unfold bMinN
  dsimp only
  rw [bind_ok ra.rd]
  unfold oMinN at e
  split at e
  · rename_i ds
    try dsimp only
    cases q : asInts ds with
    | none =>
      rw [q] at e
      cases e
    | some ns =>
      rw [q] at e
      cases e
      exact (bind_ok (show orFail (some ns) μ = some (.ok ns μ) from rfl)).trans rfl
  · cases e
theorem e_minN (ha : Jd l Fa ta (pW l1)) : Jd l (callKw bMinN (argC Fa argN) (argC (con .none) argN)) (ta.bind fun a => S.lift (oMinN a)) (pV l1) := e_bl1 bl_minN ha
theorem op_notin' : OpB pNotIn cNotIn := fun a b da db d μ ra rb e => by
  unfold cNotIn at e
  split at e
  · split at e
    · rename_i hs
      cases e
      unfold pNotIn
      rw [bind_ok ra.rd, bind_ok rb.rd]
      try dsimp only
      exact (congrFun (if_pos hs) μ).trans rfl
    · cases e
  · split at e
    · rename_i hs
      cases e
      unfold pNotIn
      rw [bind_ok ra.rd, bind_ok rb.rd]
      try dsimp only
      cases da <;> first | exact (congrFun (if_pos hs) μ).trans rfl | exact (congrFun (if_pos (Bool.and_eq_true_iff.mp hs).1) μ).trans rfl
    · cases e
  · cases e
end
def un2L : PyData → Option (PyData × PyData)
  | .list [a, b] => some (a, b)
  | _ => none
theorem un2L_some {d : PyData} {p : PyData × PyData} (h : un2L d = some p) : d = .list [p.1, p.2] := by
  unfold un2L at h
  split at h
  · cases h
    rfl
  · cases h
section
variable {l : En} {σ τ : Type}
theorem tg_tp2L {T1 T2 : Sv → Rho → M Rho} {u1 : PyData → S σ} {u2 : PyData → S τ} {e1 : σ → En} {e2 : σ → τ → En} (d : PyData) (h1 : ∀ a, Jd l (T1 (.dat a)) (u1 a) (pT e1)) (h2 : ∀ s b, Jd (e1 s) (T2 (.dat b)) (u2 b) (pT (e2 s))) :
    Jd l (gTpL 2 (gsCons T1 (gsCons T2 gsNil)) (.dat d)) ((S.lift (un2L d)).bind fun p => (u1 p.1).bind fun s => (u2 p.2).bind fun s' => S.ret (s, s')) (pT fun s => e2 s.1 s.2) := fun k rest ρ μ e => Jl.pre fun p q => by
  rw [un2L_some q]
  refine Jl.eqM (m := (T1 (.dat p.1) ρ).bind fun ρ' => T2 (.dat p.2) ρ') ((h1 p.1 k rest ρ μ e).bind fun k1 μ1 ρ1 s r1 => ?_) ?_
  · have := h2 s p.2 k1 rest ρ1 μ1 r1
    intro r k' z
    rcases S.bind_inv z with ⟨s', k2, z1, z2⟩ | ⟨c, z1, rfl⟩
    · cases z2
      obtain ⟨a, μ', w1, w2⟩ := this _ _ z1
      exact ⟨a, μ', w1, w2⟩
    · exact this _ _ z1
  · show M.bind _ _ = _
    congr 1
    funext ρ'
    exact M.bind_ret _
end
end Pf

set_option maxHeartbeats 1000000
namespace Pf
open PySem PySem.Spec PyProof.Rows L2
def vAnd (a : Bool) (t : S PyData) : S PyData := if a = true then t else S.ret (.bool false)
theorem e_chain {l l1 l2 : En} {op op' : Sv → Sv → M Sv} {c c' : PyData → PyData → Option Bool} {Fa Fb Fc : Rho → M Sv} {ta tb tc : S PyData} (ho : OpB op c) (ho' : OpB op' c') (ha : Jd l Fa ta (pV l1)) (hb : Jd l1 Fb tb (pV l2)) (hc : Jd l2 Fc tc (pW l2)) :
    Jd l (chain op op' Fa Fb Fc) (ta.bind fun a => tb.bind fun b => (S.lift (c a b)).bind fun z => vAnd z (tc.bind fun d => S.lift (asB2 (c' b d)))) (pV l2) := fun k rest ρ μ e => by
  refine (ha k rest ρ μ e).bind fun k1 μ1 a da ⟨z, e1⟩ => ?_
  subst z
  refine (hb k1 rest ρ μ1 e1).bind fun k2 μ2 b db ⟨z, e2⟩ => ?_
  subst z
  refine Jl.pre fun d q => ?_
  have q2 : ∀ f : Sv → M Sv, (op (.dat da) (.dat db)).bind f μ2 = f (.dat (.bool d)) μ2 := fun f => bind_ok (ho _ _ da db d μ2 .dat .dat q)
  intro r k' h
  rw [q2]
  have := (Jl.ite (k := k2) (rest := rest) (ρ := ρ) (μ := μ2) (c := d) (m := (Fc ρ).bind fun c => op' (.dat db) c) (m' := M.ret (.dat (.bool false))) (P := pV l2) (t := tc.bind fun d => S.lift (asB2 (c' db d))) (t' := S.ret (.bool false)) ?_ ?_) r k' h
  · exact this
  · refine (hc k2 rest ρ μ2 e2).bind fun k3 μ3 g dg ⟨rg, e3⟩ => ?_
    refine Jl.lift fun d2 q => ?_
    unfold asB2 at q
    cases hq : c' db dg with
    | none =>
      rw [hq] at q
      cases q
    | some b2 =>
      rw [hq] at q
      cases q
      exact ⟨_, μ3, ho' _ _ db dg b2 μ3 .dat rg hq, rfl, e3⟩
  · exact Jl.ret ⟨rfl, e2⟩
end Pf

set_option maxHeartbeats 1000000
namespace Pf
open PySem PySem.Spec PyProof.Rows L2 PySem.W
section
variable {X : Cx} {E : XK}
/-! ### is, is not between truth values -/
def pIsB (n : Bool) (a b : Sv) : M Sv := match a, b with
  | .dat (.bool x), .dat (.bool y) => M.ret (.dat (.bool (Bool.xor n (decide (x = y)))))
  | _, _ => M.fail
theorem o_isB : OpR X (compareOp .Is) (rO2 X.K E (pIsB false)) := opr_weak op_is_bl fun x y H Q ⟨W, μ, a, b, r, R, ra, rb, e, q⟩ => by
  unfold pIsB at e
  split at e
  · cases ra
    cases rb
    cases e
    exact ⟨_, _, rfl, rfl, q _ _ (Grow.refl _ _ _) R _ (by rw [Bool.false_xor]; exact .bl _)⟩
  · cases e
theorem o_isnotB : OpR X (compareOp .IsNot) (rO2 X.K E (pIsB true)) := opr_weak op_isnot_bl fun x y H Q ⟨W, μ, a, b, r, R, ra, rb, e, q⟩ => by
  unfold pIsB at e
  split at e
  · cases ra
    cases rb
    cases e
    exact ⟨_, _, rfl, rfl, q _ _ (Grow.refl _ _ _) R _ (by rw [Bool.true_xor]; exact .bl _)⟩
  · cases e
end
end Pf

set_option maxHeartbeats 1000000
namespace Pf
open PySem PySem.Spec PyProof.Rows L2
def cIsB (n : Bool) (a b : PyData) : Option Bool := match a, b with
  | .bool x, .bool y => some (Bool.xor n (decide (x = y)))
  | _, _ => none
theorem op_isB' {n : Bool} : OpB (pIsB n) (cIsB n) := fun a b da db d μ ra rb e => by
  unfold cIsB at e
  split at e
  · rw [ra.nl rfl, rb.nl rfl]
    cases e
    rfl
  · cases e
end Pf

set_option maxHeartbeats 1000000
namespace Pf
open PySem PySem.Spec PyProof.Rows L2 PySem.W
section
variable {X : Cx} {E : XK}
/-! ### t > u of two pairs of ints -/
def ltP (p q : Int × Int) : Bool := DatumOrd.lt p q
def asPr : PyData → Option (Int × Int)
  | .tuple [.int i, .int j] => some (i, j)
  | _ => none
theorem asPr_some {d : PyData} {p : Int × Int} (h : asPr d = some p) : d = .tuple [.int p.1, .int p.2] := by
  unfold asPr at h
  split at h
  · cases h
    rfl
  · cases h
def pGtP (a b : Sv) : M Sv := (rd a).bind fun d => (rd b).bind fun e => (orFail (asPr d)).bind fun p => (orFail (asPr e)).bind fun q => M.ret (.dat (.bool (ltP q p)))
theorem o_gtP (hu : X.A.units + 64 < cLine) : OpR X (compareOp .Gt) (rO2 X.K E pGtP) := by
  intro pins s σ H x y v u Q I rx ry ⟨W, μ, a, b, r, R, ra, rb, e, q⟩
  unfold pGtP at e
  obtain ⟨d, e1, e⟩ := rd_bind e
  obtain ⟨c, e2, e⟩ := rd_bind e
  obtain ⟨d', z1, h1⟩ := rd_rel R ra e1
  obtain ⟨c', z2, h2⟩ := rd_rel R rb e2
  cases z1
  cases z2
  obtain ⟨p1, w1, e⟩ := orFail_some e
  obtain ⟨p2, w2, e⟩ := orFail_some e
  cases e
  have w1 := asPr_some w1
  have w2 := asPr_some w2
  subst w1 w2
  obtain ⟨as, r1, _⟩ := Dq.reads I h1 rx
  obtain ⟨bs, r2, _⟩ := Dq.reads I h2 ry
  have b := gt_datum (α := Int × Int) (x := p1) (y := p2) ⟨as, r1⟩ ⟨bs, r2⟩ (by show X.A.units + 1 < _; omega) (Q := EP X pins σ Q) (E := X.xe) (prog := X.prog) (w := X.w) ⟨.bl _, H, I, rfl, q _ _ (Grow.refl _ _ _) R _ (.bl _)⟩
  exact b
end
end Pf

set_option maxHeartbeats 1000000
namespace Pf
open PySem PySem.Spec PyProof.Rows L2
def cGtP (a b : PyData) : Option Bool := (asPr a).bind fun p => (asPr b).map fun q => ltP q p
theorem op_gtP' : OpB pGtP cGtP := fun a b da db d μ ra rb e => by
  unfold cGtP at e
  cases h1 : asPr da with
  | none =>
    rw [h1] at e
    cases e
  | some p =>
    cases h2 : asPr db with
    | none =>
      rw [h1, h2] at e
      cases e
    | some q =>
      rw [h1, h2] at e
      cases e
      unfold pGtP
      rw [bind_ok ra.rd, bind_ok rb.rd, bind_ok (show orFail (asPr da) μ = some (.ok p μ) by rw [h1]; rfl), bind_ok (show orFail (asPr db) μ = some (.ok q μ) by rw [h2]; rfl)]
      rfl
theorem ltP_iff (p q : Int × Int) : ltP p q = if p.1 = q.1 then decide (p.2 < q.2) else decide (p.1 < q.1) := rfl
end Pf

namespace Pf
open PySem PySem.Spec PyProof.Rows L2
namespace Err_TooLarge
/-! ### an error of the program's own, with one field -/
section
open PySem.W PySem.Calls PySem.HandSPX
def tlArgs (a b : Pos) : Arguments := { vararg := none, kwarg := none, posonlyargs := [], kwonlyargs := [], kw_defaults := [], defaults := [], args := [{ arg := "self", annotation := none, pos := a }, { arg := "bound", annotation := none, pos := b }] }
def tlBody (a b c d : Pos) : List Stmt := [.Assign [.Attribute (.Name "self" a) "bound" b] (.Name "bound" c) d]
def tlScope : Scope := { isGenerator := false, isCoroutine := false, more := [], kind := .function, names := [(PySem.Str.ofString "self", .local), (PySem.Str.ofString "bound", .local)] }
/-- what stands of the class, at C, its __init__ at f -/
structure TL (K : Frag) (mg : Str → Option Value) (C f : Addr) : Prop where
  nC : nsIn K mainGlobals "TooLarge" = some (some (.ref C))
  gC : mg "TooLarge" = some (.ref C)
  ob : ∃ nm q N bs bm sn sub ab col dd m0 m1 m2 m3 m5, K.lookup C = some (excClassObj nm q C N bs bm true sn sub ab col dd m0 m1 m2 m3 m5 "ValueError.__new__") ∧ refsVE bm = true
  f_set : findIn K (.ref C) "__setattr__" = some (some (.builtin "object.__setattr__"))
  f_get : findIn K (.ref C) "__getattribute__" = some (some (.builtin "BaseException.__getattribute__"))
  f_at : findIn K (.ref C) "__getattr__" = some none
  f_fld : findIn K (.ref C) "bound" = some none
  f_ini : findIn K (.ref C) "__init__" = some (some (.ref f))
  f_cls : findIn K (.ref C) "__class__" = some (some (.builtin "object.__class__"))
  s_get : specialIn K (.builtin "object.__class__") "__get__" = some (some (.builtin "getset_descriptor.__get__"))
  tk : takesIn K (.builtin "object.__class__") = some true
  mro : mroIn K C (.type "object") = some true
  tyF : typeIn K (.ref f) = some (.type "function")
  kp : keepIn K (.ref C) = true
  sub : subIn K (.ref C) (.type "BaseException") = some true
  tyC : typeIn K (.ref C) = some (.type "type")
  dct : hasDictIn K C = true
  fn : ∃ (oc : Value) (od : Option Addr) (kV doc pm : Value) (an : Option Addr) (cdv ct : Value) (osl : Array (Option Value)) (p1 p2 q1 q2 q3 q4 : Pos),
    K.lookup f = some ⟨oc, od, .func (fnOf "__init__" "TooLarge.__init__" (tlArgs p1 p2) (tlBody q1 q2 q3 q4) tlScope .none kV doc pm an cdv ct), osl⟩ ∧ codeIn K cdv "TooLarge.__init__" = true
theorem sz_one (v : Value) : [v].length ≤ sizeLine := by
  rw [sizeLine_eq]
  show 1 ≤ 16777216
  decide
theorem ld_param {M : Model} {s : Shared} {nm : Str} {sc : Scope} {L a : Addr} {cdv : Value} {m : Str → Option Value} {y : Str} {pos : Pos} {v : Value} {Q : Value → Shared → Prop} {A : Around} {E : Value → Shared → Prop} (hn : s.heap.Ns L m) (hv : m y = some v) (h : Q v s)
    (hk : sc.kind = .function := by rfl) (hl : (envOfC nm sc L a cdv).kindOf y = some .local := by rfl) (hd : (y == ("__debug__" : Str)) = false := by decide) : wpAny M A (eval (.Name y pos) (envOfC nm sc L a cdv)) Q E s := by
  refine wpAny_Name (wpAny_loadName_local hk hl hn hv h) hd
/-- behind __init__ -/
structure TlEnd (h h' : Heap) (x C dx t1 : Addr) (v : Value) : Prop where
  rest : ∀ b o, b ≠ x → h.get? b = some o → h'.get? b = some o
  self : h'.get? x = some { cls := .ref C, data := .fields #[.ref t1, .none, .none, .none, .bool false, .none], dict := some dx }
  late : h.objs.size ≤ dx
  apart : dx ≠ x
  fld : h'.Ns1 dx (fun y => if y = "bound" then some v else none)
/-- behind the making -/
structure TlMade (h h' : Heap) (e C d : Addr) (v : Value) : Prop where
  rest : ∀ b o, h.get? b = some o → h'.get? b = some o
  new : h.objs.size ≤ e
  self : ∃ oe vs, h'.get? e = some oe ∧ oe.cls = .ref C ∧ oe.dict = some d ∧ oe.data = .fields vs ∧ vs[1]? = some .none
  late : h.objs.size ≤ d
  apart : d ≠ e
  fld : h'.Ns1 d (fun y => if y = "bound" then some v else none)
variable {prog : Program} {w : World} {A : Around} {E : Value → Shared → Prop} {R : Result → Shared → Prop} {s : Shared} {K : Frag} {mg : Str → Option Value} {C f : Addr}
theorem tl_init (T : TL K mg C f) {x t0 : Addr} {v : Value} (X : K.In s.heap) (lim : s.heap.NoLimit) (hx : s.heap.get? x = some (excO C t0)) (room : A.depth < recursionLimit)
    (fin : ∀ h' tk dx, TlEnd s.heap h' x C dx t0 v → R (.ok (.ret .none)) { s with heap := h', toks := tk }) : codeAny (model prog w) A (.call (.ref f) ⟨[.ref x, v], []⟩) R s := by
  obtain ⟨oc, od, kV, doc, pm, an, cdv, ct, osl, p1, p2, q1, q2, q3, q4, ho, hcd⟩ := T.fn
  obtain ⟨nm, q, N, bs, bm, sn, sub, ab, col, dd, m0, m1, m2, m3, m5, hC, hbm⟩ := T.ob
  have cd : clsIn K C = some { name := nm, bases := bs, mro := .ref C :: bm, ns := N, qualname := q, hasDict := true, slotNames := sn, subclasses := sub, abstract := ab, collection := col, hasDel := false } := by
    unfold clsIn
    rw [hC] <;> rfl
  refine Att.call_fn (binds := [("self", .ref x), ("bound", v)]) X lim ho hcd room (BindsTo.of_eq (by first | rfl | with_unfolding_all rfl)) (by first | rfl | decide | with_unfolding_all rfl) (fun s₁ ic => ?_) rfl rfl rfl
  obtain ⟨h₁, tk₁, rfl⟩ := ic.toInCall.same
  have keep := ic.toInCall.keep
  have ns := ic.toInCall.ns
  have X₁ : K.In h₁ := X.keeps keep
  have hx₁ := keep _ _ hx
  show wpAny _ _ (execs _ _) _ _ _
  refine wpAny_execs_cons (plainObj_wpAny_Assign_Attribute (ld_param (v := v) ns (by first | rfl | with_unfolding_all rfl | kernel_rfl) (ld_param (v := .ref x) ns (by first | rfl | with_unfolding_all rfl | kernel_rfl) ?_)))
  refine set_plain X₁ (ox := excO C t0) (od := none) ⟨hx₁, rfl, rfl, trivial⟩ T.f_set (exc_osa X₁ hx₁ cd (show refsVE (.ref C :: bm) = true from hbm) rfl T.f_fld (fun h₃ tk₃ dx k₃ dn dne hx₃ hn₃ => ?_))
  have lt : s.heap.objs.size < h₁.objs.size := ns.lt
  show wpAny _ _ (execs _ _) _ _ _
  exact wpAny_execs_nil (fin h₃ tk₃ dx ⟨fun b o hb e => k₃ b o hb (keep b o e), hx₃, Nat.le_of_lt (Nat.lt_of_lt_of_le lt dn), dne, hn₃⟩)
theorem tl_made (T : TL K mg C f) {v : Value} (X : K.In s.heap) (lim : s.heap.NoLimit) (room : A.depth + 1 < recursionLimit) (fin : ∀ h' tk e d, TlMade s.heap h' e C d v → R (.ok (.ret (.ref e))) { s with heap := h', toks := tk }) :
    codeAny (model prog w) A (.call (.ref C) ⟨[v], []⟩) R s := by
  obtain ⟨nm, q, N, bs, bm, sn, sub, ab, col, dd, m0, m1, m2, m3, m5, hC, hbm⟩ := T.ob
  obtain ⟨hp, g, dr, tk, os⟩ := s
  have keep : ∀ b o, hp.get? b = some o → ((hp.push (kdv_tup [v])).push (excO C hp.objs.size)).get? b = some o := fun b o e => Heap.get?_push_of_some _ (Heap.get?_push_of_some _ e)
  have at_ : ((hp.push (kdv_tup [v])).push (excO C hp.objs.size)).get? (hp.objs.size + 1) = some (excO C hp.objs.size) := by heap_get
  refine call_own F.excBase_ValueError (fun Y => refsVE_contains Y bm hbm) (X _ _ hC) (looks_findIn X T.f_ini) (fun self => bind_fn X self T.tyF) (sz_one v) ?_
  refine tl_init (s := ⟨(hp.push (kdv_tup [v])).push (excO C hp.objs.size), g, dr, tk, os⟩) T (X.keeps keep) (lim.keeps keep) at_ (show A.depth + 1 < recursionLimit from room) fun h' tk' dx ⟨k', hx, dn, dne, hns⟩ => ?_
  have old : ∀ b o, hp.get? b = some o → h'.get? b = some o := fun b o e => k' b o (Nat.ne_of_lt (Nat.lt_succ_of_lt (Heap.lt_size e))) (keep b o e)
  have z : hp.objs.size + 1 + 1 ≤ dx := by
    first
      | (simpa only [Heap.size_push] using dn)
      | exact dn
      | (have q := dn; rw [Heap.size_push, Heap.size_push] at q; exact q)
  refine ⟨rfl, fin h' tk' (hp.objs.size + 1) dx ⟨old, Nat.le_succ _, ⟨_, _, hx, rfl, rfl, rfl, rfl⟩, Nat.le_trans (Nat.le_trans (Nat.le_succ _) (Nat.le_succ _)) z, dne, hns⟩⟩
end
theorem rel_bound {v : V} {v' : Value} (r : RelV v v') (g : Str) : RelO (List.lookup g [(("bound" : Str), v)]) (if g = "bound" then some v' else none) := by
  by_cases h : g = "bound"
  · subst h
    rw [if_pos rfl, show List.lookup ("bound" : Str) [(("bound" : Str), v)] = some v by simp [List.lookup]]
    exact r
  · rw [if_neg h, show List.lookup g [(("bound" : Str), v)] = none by
      have n : (g == ("bound" : Str)) = false := by simpa using h
      simp [List.lookup, n]]
    trivial
section
variable {X : Cx} {E : XK} {C f : Addr} {k : Nat} {a e : Expr} {es : List Expr} {Fa : Rho → M Sv} {Fs Fk : Rho → M (List Sv)} {p pos pos2 : Pos}
def mkTl (C : Addr) (ta : TA) : L2.St → Hp → XK → Prop := fun σ H Q => ta σ H fun vs H1 => ∃ v, vs = [v] ∧ ∀ d, H1 d = none → Q (.ref C) (some d) (upd H1 d (.xd [(("bound" : Str), v)]))
theorem pmk_tl {ta : TA} (T : TL X.K X.mg C f) (hr : Room k X.A) (ha : PA X [a] ta) (hg : Gl X "TooLarge" := by rfl) (he : starEach (a :: []) X.env = (false, eval a X.env) :: starEach [] X.env := by rfl) (hpl : (backTo pos (starEach [] X.env)).any (·.1) = false := by rfl) :
    PMk X (.Call (.Name "TooLarge" p) [a] [] pos) (mkTl C ta) := by
  intro pins s σ H Q I h
  refine wpAny_Call_Name_kw (ld_glob I hg T.gC (PySem.W.callWith_K (h₀ := X.base) I.ok.mod.kin T.kp (thn (ha.run pos pins s σ H _ I h) fun us s1 ⟨vs, H1, I1, r1, v, ev, q1⟩ => ⟨I1.kIn, ?_⟩) he hpl))
  subst ev
  obtain ⟨u, rfl, rv⟩ := vals1 r1
  show wpAny _ _ (call (.ref C) [u]) _ _ _
  have lim := I1.nolimit
  obtain ⟨hp, g, dr, tk, os⟩ := s1
  refine wpAny_call (tl_made T I1.kIn lim (by have := hr.dp; omega) fun h' tk' e d mk => ?_)
  show MkP X pins σ Q (.ref e) ⟨h', g, dr, tk', os⟩
  obtain ⟨oe, fv, hoe, hc, hd, hdat, h1⟩ := mk.self
  obtain ⟨G, g1, g2⟩ := restrict h' fun b => decide (b ≠ e)
  have gk : ∀ b, b ≠ e → G.get? b = h'.get? b := fun b hb => g1 b (decide_eq_true hb)
  have ge : G.get? e = none := g2 e (by simp)
  have old : ∀ b o, hp.get? b = some o → G.get? b = some o := fun b o q => (gk b (Nat.ne_of_lt (Nat.lt_of_lt_of_le (Heap.lt_size q) mk.new))).trans (mk.rest b o q)
  have ob : ObjOk X.prog X.w (upd H1 d (.xd [(("bound" : Str), v)])) G d (.xd [(("bound" : Str), v)]) := ⟨_, mk.fld.at (fun o q => (gk d mk.apart).trans q), fun g => rel_bound rv g⟩
  have J : Inv X pins σ (upd H1 d (.xd [(("bound" : Str), v)])) ⟨G, g, dr, tk', os⟩ := I1.laid (t' := tk') old mk.late ob
  have none_e : upd H1 d (.xd [(("bound" : Str), v)]) e = none := by
    rw [upd_ne (Ne.symm mk.apart)]
    exact I1.hok.fresh mk.new
  refine ⟨e, oe, fv, ⟨G, g, dr, tk', os⟩, _, .ref C, some d, rfl, J, fun b o q => ?_, ge, hoe, ⟨hc, hd⟩, hdat, h1, none_e, rfl, I1.bare, raises_own T.sub T.tyC, q1 d (I1.hok.fresh mk.late)⟩
  have q0 : G.get? b = some o := q
  have hb : b ≠ e := fun z => by
    rw [z, ge] at q0
    cases q0
  exact (gk b hb).symm.trans q0
def gRaise (Fa : Rho → M Sv) (ρ : Rho) : M Out := (Fa ρ).bind fun s => M.thr ⟨"TooLarge", some ("bound", s)⟩
theorem s_raise (T : TL X.K X.mg C f) (hc : X.calm = true) (hr : Room k X.A) (tk : Takes X (fun cls d _ H => E cls d H)) (ha : PX X E a Fa) (hg : Gl X "TooLarge" := by rfl) (he : starEach (a :: []) X.env = (false, eval a X.env) :: starEach [] X.env := by rfl) (hpl : (backTo pos (starEach [] X.env)).any (·.1) = false := by rfl) :
    PSX X E (.Raise (some (.Call (.Name "TooLarge" p) [a] [] pos)) none pos2) (gRaise Fa) := ps_weak (ps_raise hc tk (pmk_tl T hr (pa_cons ha pa_nil he) hg he hpl)) fun D σ H ⟨W, ρ, μ, r, h, e, q⟩ => by
  refine tX_bind h e q fun v s W1 H1 μ1 g1 h1 rs e1 q1 => ⟨v, rfl, fun d hd => ?_⟩
  cases e1
  exact q1 W1 _ (.ref C) (some d) ((Grow.refl _ _ _).out hd fun b hb => upd_ne hb) (h1.rel.lay hd) ⟨⟨C, T.nC, rfl⟩, d, v, rfl, upd_same, rs⟩
end
end Err_TooLarge
namespace Err_Conflict
/-! ### an error of the program's own, with one field -/
section
open PySem.W PySem.Calls PySem.HandSPX
def tlArgs (a b : Pos) : Arguments := { vararg := none, kwarg := none, posonlyargs := [], kwonlyargs := [], kw_defaults := [], defaults := [], args := [{ arg := "self", annotation := none, pos := a }, { arg := "pair", annotation := none, pos := b }] }
def tlBody (a b c d : Pos) : List Stmt := [.Assign [.Attribute (.Name "self" a) "pair" b] (.Name "pair" c) d]
def tlScope : Scope := { isGenerator := false, isCoroutine := false, more := [], kind := .function, names := [(PySem.Str.ofString "self", .local), (PySem.Str.ofString "pair", .local)] }
/-- what stands of the class, at C, its __init__ at f -/
structure TL (K : Frag) (mg : Str → Option Value) (C f : Addr) : Prop where
  nC : nsIn K mainGlobals "Conflict" = some (some (.ref C))
  gC : mg "Conflict" = some (.ref C)
  ob : ∃ nm q N bs bm sn sub ab col dd m0 m1 m2 m3 m5, K.lookup C = some (excClassObj nm q C N bs bm true sn sub ab col dd m0 m1 m2 m3 m5 "ValueError.__new__") ∧ refsVE bm = true
  f_set : findIn K (.ref C) "__setattr__" = some (some (.builtin "object.__setattr__"))
  f_get : findIn K (.ref C) "__getattribute__" = some (some (.builtin "BaseException.__getattribute__"))
  f_at : findIn K (.ref C) "__getattr__" = some none
  f_fld : findIn K (.ref C) "pair" = some none
  f_ini : findIn K (.ref C) "__init__" = some (some (.ref f))
  f_cls : findIn K (.ref C) "__class__" = some (some (.builtin "object.__class__"))
  s_get : specialIn K (.builtin "object.__class__") "__get__" = some (some (.builtin "getset_descriptor.__get__"))
  tk : takesIn K (.builtin "object.__class__") = some true
  mro : mroIn K C (.type "object") = some true
  tyF : typeIn K (.ref f) = some (.type "function")
  kp : keepIn K (.ref C) = true
  sub : subIn K (.ref C) (.type "BaseException") = some true
  tyC : typeIn K (.ref C) = some (.type "type")
  dct : hasDictIn K C = true
  fn : ∃ (oc : Value) (od : Option Addr) (kV doc pm : Value) (an : Option Addr) (cdv ct : Value) (osl : Array (Option Value)) (p1 p2 q1 q2 q3 q4 : Pos),
    K.lookup f = some ⟨oc, od, .func (fnOf "__init__" "Conflict.__init__" (tlArgs p1 p2) (tlBody q1 q2 q3 q4) tlScope .none kV doc pm an cdv ct), osl⟩ ∧ codeIn K cdv "Conflict.__init__" = true
theorem sz_one (v : Value) : [v].length ≤ sizeLine := by
  rw [sizeLine_eq]
  show 1 ≤ 16777216
  decide
theorem ld_param {M : Model} {s : Shared} {nm : Str} {sc : Scope} {L a : Addr} {cdv : Value} {m : Str → Option Value} {y : Str} {pos : Pos} {v : Value} {Q : Value → Shared → Prop} {A : Around} {E : Value → Shared → Prop} (hn : s.heap.Ns L m) (hv : m y = some v) (h : Q v s)
    (hk : sc.kind = .function := by rfl) (hl : (envOfC nm sc L a cdv).kindOf y = some .local := by rfl) (hd : (y == ("__debug__" : Str)) = false := by decide) : wpAny M A (eval (.Name y pos) (envOfC nm sc L a cdv)) Q E s := by
  refine wpAny_Name (wpAny_loadName_local hk hl hn hv h) hd
/-- behind __init__ -/
structure TlEnd (h h' : Heap) (x C dx t1 : Addr) (v : Value) : Prop where
  rest : ∀ b o, b ≠ x → h.get? b = some o → h'.get? b = some o
  self : h'.get? x = some { cls := .ref C, data := .fields #[.ref t1, .none, .none, .none, .bool false, .none], dict := some dx }
  late : h.objs.size ≤ dx
  apart : dx ≠ x
  fld : h'.Ns1 dx (fun y => if y = "pair" then some v else none)
/-- behind the making -/
structure TlMade (h h' : Heap) (e C d : Addr) (v : Value) : Prop where
  rest : ∀ b o, h.get? b = some o → h'.get? b = some o
  new : h.objs.size ≤ e
  self : ∃ oe vs, h'.get? e = some oe ∧ oe.cls = .ref C ∧ oe.dict = some d ∧ oe.data = .fields vs ∧ vs[1]? = some .none
  late : h.objs.size ≤ d
  apart : d ≠ e
  fld : h'.Ns1 d (fun y => if y = "pair" then some v else none)
variable {prog : Program} {w : World} {A : Around} {E : Value → Shared → Prop} {R : Result → Shared → Prop} {s : Shared} {K : Frag} {mg : Str → Option Value} {C f : Addr}
theorem tl_init (T : TL K mg C f) {x t0 : Addr} {v : Value} (X : K.In s.heap) (lim : s.heap.NoLimit) (hx : s.heap.get? x = some (excO C t0)) (room : A.depth < recursionLimit)
    (fin : ∀ h' tk dx, TlEnd s.heap h' x C dx t0 v → R (.ok (.ret .none)) { s with heap := h', toks := tk }) : codeAny (model prog w) A (.call (.ref f) ⟨[.ref x, v], []⟩) R s := by
  obtain ⟨oc, od, kV, doc, pm, an, cdv, ct, osl, p1, p2, q1, q2, q3, q4, ho, hcd⟩ := T.fn
  obtain ⟨nm, q, N, bs, bm, sn, sub, ab, col, dd, m0, m1, m2, m3, m5, hC, hbm⟩ := T.ob
  have cd : clsIn K C = some { name := nm, bases := bs, mro := .ref C :: bm, ns := N, qualname := q, hasDict := true, slotNames := sn, subclasses := sub, abstract := ab, collection := col, hasDel := false } := by
    unfold clsIn
    rw [hC] <;> rfl
  refine Att.call_fn (binds := [("self", .ref x), ("pair", v)]) X lim ho hcd room (BindsTo.of_eq (by first | rfl | with_unfolding_all rfl)) (by first | rfl | decide | with_unfolding_all rfl) (fun s₁ ic => ?_) rfl rfl rfl
  obtain ⟨h₁, tk₁, rfl⟩ := ic.toInCall.same
  have keep := ic.toInCall.keep
  have ns := ic.toInCall.ns
  have X₁ : K.In h₁ := X.keeps keep
  have hx₁ := keep _ _ hx
  show wpAny _ _ (execs _ _) _ _ _
  refine wpAny_execs_cons (plainObj_wpAny_Assign_Attribute (ld_param (v := v) ns (by first | rfl | with_unfolding_all rfl | kernel_rfl) (ld_param (v := .ref x) ns (by first | rfl | with_unfolding_all rfl | kernel_rfl) ?_)))
  refine set_plain X₁ (ox := excO C t0) (od := none) ⟨hx₁, rfl, rfl, trivial⟩ T.f_set (exc_osa X₁ hx₁ cd (show refsVE (.ref C :: bm) = true from hbm) rfl T.f_fld (fun h₃ tk₃ dx k₃ dn dne hx₃ hn₃ => ?_))
  have lt : s.heap.objs.size < h₁.objs.size := ns.lt
  show wpAny _ _ (execs _ _) _ _ _
  exact wpAny_execs_nil (fin h₃ tk₃ dx ⟨fun b o hb e => k₃ b o hb (keep b o e), hx₃, Nat.le_of_lt (Nat.lt_of_lt_of_le lt dn), dne, hn₃⟩)
theorem tl_made (T : TL K mg C f) {v : Value} (X : K.In s.heap) (lim : s.heap.NoLimit) (room : A.depth + 1 < recursionLimit) (fin : ∀ h' tk e d, TlMade s.heap h' e C d v → R (.ok (.ret (.ref e))) { s with heap := h', toks := tk }) :
    codeAny (model prog w) A (.call (.ref C) ⟨[v], []⟩) R s := by
  obtain ⟨nm, q, N, bs, bm, sn, sub, ab, col, dd, m0, m1, m2, m3, m5, hC, hbm⟩ := T.ob
  obtain ⟨hp, g, dr, tk, os⟩ := s
  have keep : ∀ b o, hp.get? b = some o → ((hp.push (kdv_tup [v])).push (excO C hp.objs.size)).get? b = some o := fun b o e => Heap.get?_push_of_some _ (Heap.get?_push_of_some _ e)
  have at_ : ((hp.push (kdv_tup [v])).push (excO C hp.objs.size)).get? (hp.objs.size + 1) = some (excO C hp.objs.size) := by heap_get
  refine call_own F.excBase_ValueError (fun Y => refsVE_contains Y bm hbm) (X _ _ hC) (looks_findIn X T.f_ini) (fun self => bind_fn X self T.tyF) (sz_one v) ?_
  refine tl_init (s := ⟨(hp.push (kdv_tup [v])).push (excO C hp.objs.size), g, dr, tk, os⟩) T (X.keeps keep) (lim.keeps keep) at_ (show A.depth + 1 < recursionLimit from room) fun h' tk' dx ⟨k', hx, dn, dne, hns⟩ => ?_
  have old : ∀ b o, hp.get? b = some o → h'.get? b = some o := fun b o e => k' b o (Nat.ne_of_lt (Nat.lt_succ_of_lt (Heap.lt_size e))) (keep b o e)
  have z : hp.objs.size + 1 + 1 ≤ dx := by
    first
      | (simpa only [Heap.size_push] using dn)
      | exact dn
      | (have q := dn; rw [Heap.size_push, Heap.size_push] at q; exact q)
  refine ⟨rfl, fin h' tk' (hp.objs.size + 1) dx ⟨old, Nat.le_succ _, ⟨_, _, hx, rfl, rfl, rfl, rfl⟩, Nat.le_trans (Nat.le_trans (Nat.le_succ _) (Nat.le_succ _)) z, dne, hns⟩⟩
end
theorem rel_bound {v : V} {v' : Value} (r : RelV v v') (g : Str) : RelO (List.lookup g [(("pair" : Str), v)]) (if g = "pair" then some v' else none) := by
  by_cases h : g = "pair"
  · subst h
    rw [if_pos rfl, show List.lookup ("pair" : Str) [(("pair" : Str), v)] = some v by simp [List.lookup]]
    exact r
  · rw [if_neg h, show List.lookup g [(("pair" : Str), v)] = none by
      have n : (g == ("pair" : Str)) = false := by simpa using h
      simp [List.lookup, n]]
    trivial
section
variable {X : Cx} {E : XK} {C f : Addr} {k : Nat} {a e : Expr} {es : List Expr} {Fa : Rho → M Sv} {Fs Fk : Rho → M (List Sv)} {p pos pos2 : Pos}
def mkTl (C : Addr) (ta : TA) : L2.St → Hp → XK → Prop := fun σ H Q => ta σ H fun vs H1 => ∃ v, vs = [v] ∧ ∀ d, H1 d = none → Q (.ref C) (some d) (upd H1 d (.xd [(("pair" : Str), v)]))
theorem pmk_tl {ta : TA} (T : TL X.K X.mg C f) (hr : Room k X.A) (ha : PA X [a] ta) (hg : Gl X "Conflict" := by rfl) (he : starEach (a :: []) X.env = (false, eval a X.env) :: starEach [] X.env := by rfl) (hpl : (backTo pos (starEach [] X.env)).any (·.1) = false := by rfl) :
    PMk X (.Call (.Name "Conflict" p) [a] [] pos) (mkTl C ta) := by
  intro pins s σ H Q I h
  refine wpAny_Call_Name_kw (ld_glob I hg T.gC (PySem.W.callWith_K (h₀ := X.base) I.ok.mod.kin T.kp (thn (ha.run pos pins s σ H _ I h) fun us s1 ⟨vs, H1, I1, r1, v, ev, q1⟩ => ⟨I1.kIn, ?_⟩) he hpl))
  subst ev
  obtain ⟨u, rfl, rv⟩ := vals1 r1
  show wpAny _ _ (call (.ref C) [u]) _ _ _
  have lim := I1.nolimit
  obtain ⟨hp, g, dr, tk, os⟩ := s1
  refine wpAny_call (tl_made T I1.kIn lim (by have := hr.dp; omega) fun h' tk' e d mk => ?_)
  show MkP X pins σ Q (.ref e) ⟨h', g, dr, tk', os⟩
  obtain ⟨oe, fv, hoe, hc, hd, hdat, h1⟩ := mk.self
  obtain ⟨G, g1, g2⟩ := restrict h' fun b => decide (b ≠ e)
  have gk : ∀ b, b ≠ e → G.get? b = h'.get? b := fun b hb => g1 b (decide_eq_true hb)
  have ge : G.get? e = none := g2 e (by simp)
  have old : ∀ b o, hp.get? b = some o → G.get? b = some o := fun b o q => (gk b (Nat.ne_of_lt (Nat.lt_of_lt_of_le (Heap.lt_size q) mk.new))).trans (mk.rest b o q)
  have ob : ObjOk X.prog X.w (upd H1 d (.xd [(("pair" : Str), v)])) G d (.xd [(("pair" : Str), v)]) := ⟨_, mk.fld.at (fun o q => (gk d mk.apart).trans q), fun g => rel_bound rv g⟩
  have J : Inv X pins σ (upd H1 d (.xd [(("pair" : Str), v)])) ⟨G, g, dr, tk', os⟩ := I1.laid (t' := tk') old mk.late ob
  have none_e : upd H1 d (.xd [(("pair" : Str), v)]) e = none := by
    rw [upd_ne (Ne.symm mk.apart)]
    exact I1.hok.fresh mk.new
  refine ⟨e, oe, fv, ⟨G, g, dr, tk', os⟩, _, .ref C, some d, rfl, J, fun b o q => ?_, ge, hoe, ⟨hc, hd⟩, hdat, h1, none_e, rfl, I1.bare, raises_own T.sub T.tyC, q1 d (I1.hok.fresh mk.late)⟩
  have q0 : G.get? b = some o := q
  have hb : b ≠ e := fun z => by
    rw [z, ge] at q0
    cases q0
  exact (gk b hb).symm.trans q0
def gRaise (Fa : Rho → M Sv) (ρ : Rho) : M Out := (Fa ρ).bind fun s => M.thr ⟨"Conflict", some ("pair", s)⟩
theorem s_raise (T : TL X.K X.mg C f) (hc : X.calm = true) (hr : Room k X.A) (tk : Takes X (fun cls d _ H => E cls d H)) (ha : PX X E a Fa) (hg : Gl X "Conflict" := by rfl) (he : starEach (a :: []) X.env = (false, eval a X.env) :: starEach [] X.env := by rfl) (hpl : (backTo pos (starEach [] X.env)).any (·.1) = false := by rfl) :
    PSX X E (.Raise (some (.Call (.Name "Conflict" p) [a] [] pos)) none pos2) (gRaise Fa) := ps_weak (ps_raise hc tk (pmk_tl T hr (pa_cons ha pa_nil he) hg he hpl)) fun D σ H ⟨W, ρ, μ, r, h, e, q⟩ => by
  refine tX_bind h e q fun v s W1 H1 μ1 g1 h1 rs e1 q1 => ⟨v, rfl, fun d hd => ?_⟩
  cases e1
  exact q1 W1 _ (.ref C) (some d) ((Grow.refl _ _ _).out hd fun b hb => upd_ne hb) (h1.rel.lay hd) ⟨⟨C, T.nC, rfl⟩, d, v, rfl, upd_same, rs⟩
end
end Err_Conflict
namespace Err_NoLast
/-! ### an error of the program's own, with one field -/
section
open PySem.W PySem.Calls PySem.HandSPX
def tlArgs (a b : Pos) : Arguments := { vararg := none, kwarg := none, posonlyargs := [], kwonlyargs := [], kw_defaults := [], defaults := [], args := [{ arg := "self", annotation := none, pos := a }, { arg := "mark", annotation := none, pos := b }] }
def tlBody (a b c d : Pos) : List Stmt := [.Assign [.Attribute (.Name "self" a) "mark" b] (.Name "mark" c) d]
def tlScope : Scope := { isGenerator := false, isCoroutine := false, more := [], kind := .function, names := [(PySem.Str.ofString "self", .local), (PySem.Str.ofString "mark", .local)] }
/-- what stands of the class, at C, its __init__ at f -/
structure TL (K : Frag) (mg : Str → Option Value) (C f : Addr) : Prop where
  nC : nsIn K mainGlobals "NoLast" = some (some (.ref C))
  gC : mg "NoLast" = some (.ref C)
  ob : ∃ nm q N bs bm sn sub ab col dd m0 m1 m2 m3 m5, K.lookup C = some (excClassObj nm q C N bs bm true sn sub ab col dd m0 m1 m2 m3 m5 "ValueError.__new__") ∧ refsVE bm = true
  f_set : findIn K (.ref C) "__setattr__" = some (some (.builtin "object.__setattr__"))
  f_get : findIn K (.ref C) "__getattribute__" = some (some (.builtin "BaseException.__getattribute__"))
  f_at : findIn K (.ref C) "__getattr__" = some none
  f_fld : findIn K (.ref C) "mark" = some none
  f_ini : findIn K (.ref C) "__init__" = some (some (.ref f))
  f_cls : findIn K (.ref C) "__class__" = some (some (.builtin "object.__class__"))
  s_get : specialIn K (.builtin "object.__class__") "__get__" = some (some (.builtin "getset_descriptor.__get__"))
  tk : takesIn K (.builtin "object.__class__") = some true
  mro : mroIn K C (.type "object") = some true
  tyF : typeIn K (.ref f) = some (.type "function")
  kp : keepIn K (.ref C) = true
  sub : subIn K (.ref C) (.type "BaseException") = some true
  tyC : typeIn K (.ref C) = some (.type "type")
  dct : hasDictIn K C = true
  fn : ∃ (oc : Value) (od : Option Addr) (kV doc pm : Value) (an : Option Addr) (cdv ct : Value) (osl : Array (Option Value)) (p1 p2 q1 q2 q3 q4 : Pos),
    K.lookup f = some ⟨oc, od, .func (fnOf "__init__" "NoLast.__init__" (tlArgs p1 p2) (tlBody q1 q2 q3 q4) tlScope .none kV doc pm an cdv ct), osl⟩ ∧ codeIn K cdv "NoLast.__init__" = true
theorem sz_one (v : Value) : [v].length ≤ sizeLine := by
  rw [sizeLine_eq]
  show 1 ≤ 16777216
  decide
theorem ld_param {M : Model} {s : Shared} {nm : Str} {sc : Scope} {L a : Addr} {cdv : Value} {m : Str → Option Value} {y : Str} {pos : Pos} {v : Value} {Q : Value → Shared → Prop} {A : Around} {E : Value → Shared → Prop} (hn : s.heap.Ns L m) (hv : m y = some v) (h : Q v s)
    (hk : sc.kind = .function := by rfl) (hl : (envOfC nm sc L a cdv).kindOf y = some .local := by rfl) (hd : (y == ("__debug__" : Str)) = false := by decide) : wpAny M A (eval (.Name y pos) (envOfC nm sc L a cdv)) Q E s := by
  refine wpAny_Name (wpAny_loadName_local hk hl hn hv h) hd
/-- behind __init__ -/
structure TlEnd (h h' : Heap) (x C dx t1 : Addr) (v : Value) : Prop where
  rest : ∀ b o, b ≠ x → h.get? b = some o → h'.get? b = some o
  self : h'.get? x = some { cls := .ref C, data := .fields #[.ref t1, .none, .none, .none, .bool false, .none], dict := some dx }
  late : h.objs.size ≤ dx
  apart : dx ≠ x
  fld : h'.Ns1 dx (fun y => if y = "mark" then some v else none)
/-- behind the making -/
structure TlMade (h h' : Heap) (e C d : Addr) (v : Value) : Prop where
  rest : ∀ b o, h.get? b = some o → h'.get? b = some o
  new : h.objs.size ≤ e
  self : ∃ oe vs, h'.get? e = some oe ∧ oe.cls = .ref C ∧ oe.dict = some d ∧ oe.data = .fields vs ∧ vs[1]? = some .none
  late : h.objs.size ≤ d
  apart : d ≠ e
  fld : h'.Ns1 d (fun y => if y = "mark" then some v else none)
variable {prog : Program} {w : World} {A : Around} {E : Value → Shared → Prop} {R : Result → Shared → Prop} {s : Shared} {K : Frag} {mg : Str → Option Value} {C f : Addr}
theorem tl_init (T : TL K mg C f) {x t0 : Addr} {v : Value} (X : K.In s.heap) (lim : s.heap.NoLimit) (hx : s.heap.get? x = some (excO C t0)) (room : A.depth < recursionLimit)
    (fin : ∀ h' tk dx, TlEnd s.heap h' x C dx t0 v → R (.ok (.ret .none)) { s with heap := h', toks := tk }) : codeAny (model prog w) A (.call (.ref f) ⟨[.ref x, v], []⟩) R s := by
  obtain ⟨oc, od, kV, doc, pm, an, cdv, ct, osl, p1, p2, q1, q2, q3, q4, ho, hcd⟩ := T.fn
  obtain ⟨nm, q, N, bs, bm, sn, sub, ab, col, dd, m0, m1, m2, m3, m5, hC, hbm⟩ := T.ob
  have cd : clsIn K C = some { name := nm, bases := bs, mro := .ref C :: bm, ns := N, qualname := q, hasDict := true, slotNames := sn, subclasses := sub, abstract := ab, collection := col, hasDel := false } := by
    unfold clsIn
    rw [hC] <;> rfl
  refine Att.call_fn (binds := [("self", .ref x), ("mark", v)]) X lim ho hcd room (BindsTo.of_eq (by first | rfl | with_unfolding_all rfl)) (by first | rfl | decide | with_unfolding_all rfl) (fun s₁ ic => ?_) rfl rfl rfl
  obtain ⟨h₁, tk₁, rfl⟩ := ic.toInCall.same
  have keep := ic.toInCall.keep
  have ns := ic.toInCall.ns
  have X₁ : K.In h₁ := X.keeps keep
  have hx₁ := keep _ _ hx
  show wpAny _ _ (execs _ _) _ _ _
  refine wpAny_execs_cons (plainObj_wpAny_Assign_Attribute (ld_param (v := v) ns (by first | rfl | with_unfolding_all rfl | kernel_rfl) (ld_param (v := .ref x) ns (by first | rfl | with_unfolding_all rfl | kernel_rfl) ?_)))
  refine set_plain X₁ (ox := excO C t0) (od := none) ⟨hx₁, rfl, rfl, trivial⟩ T.f_set (exc_osa X₁ hx₁ cd (show refsVE (.ref C :: bm) = true from hbm) rfl T.f_fld (fun h₃ tk₃ dx k₃ dn dne hx₃ hn₃ => ?_))
  have lt : s.heap.objs.size < h₁.objs.size := ns.lt
  show wpAny _ _ (execs _ _) _ _ _
  exact wpAny_execs_nil (fin h₃ tk₃ dx ⟨fun b o hb e => k₃ b o hb (keep b o e), hx₃, Nat.le_of_lt (Nat.lt_of_lt_of_le lt dn), dne, hn₃⟩)
theorem tl_made (T : TL K mg C f) {v : Value} (X : K.In s.heap) (lim : s.heap.NoLimit) (room : A.depth + 1 < recursionLimit) (fin : ∀ h' tk e d, TlMade s.heap h' e C d v → R (.ok (.ret (.ref e))) { s with heap := h', toks := tk }) :
    codeAny (model prog w) A (.call (.ref C) ⟨[v], []⟩) R s := by
  obtain ⟨nm, q, N, bs, bm, sn, sub, ab, col, dd, m0, m1, m2, m3, m5, hC, hbm⟩ := T.ob
  obtain ⟨hp, g, dr, tk, os⟩ := s
  have keep : ∀ b o, hp.get? b = some o → ((hp.push (kdv_tup [v])).push (excO C hp.objs.size)).get? b = some o := fun b o e => Heap.get?_push_of_some _ (Heap.get?_push_of_some _ e)
  have at_ : ((hp.push (kdv_tup [v])).push (excO C hp.objs.size)).get? (hp.objs.size + 1) = some (excO C hp.objs.size) := by heap_get
  refine call_own F.excBase_ValueError (fun Y => refsVE_contains Y bm hbm) (X _ _ hC) (looks_findIn X T.f_ini) (fun self => bind_fn X self T.tyF) (sz_one v) ?_
  refine tl_init (s := ⟨(hp.push (kdv_tup [v])).push (excO C hp.objs.size), g, dr, tk, os⟩) T (X.keeps keep) (lim.keeps keep) at_ (show A.depth + 1 < recursionLimit from room) fun h' tk' dx ⟨k', hx, dn, dne, hns⟩ => ?_
  have old : ∀ b o, hp.get? b = some o → h'.get? b = some o := fun b o e => k' b o (Nat.ne_of_lt (Nat.lt_succ_of_lt (Heap.lt_size e))) (keep b o e)
  have z : hp.objs.size + 1 + 1 ≤ dx := by
    first
      | (simpa only [Heap.size_push] using dn)
      | exact dn
      | (have q := dn; rw [Heap.size_push, Heap.size_push] at q; exact q)
  refine ⟨rfl, fin h' tk' (hp.objs.size + 1) dx ⟨old, Nat.le_succ _, ⟨_, _, hx, rfl, rfl, rfl, rfl⟩, Nat.le_trans (Nat.le_trans (Nat.le_succ _) (Nat.le_succ _)) z, dne, hns⟩⟩
end
theorem rel_bound {v : V} {v' : Value} (r : RelV v v') (g : Str) : RelO (List.lookup g [(("mark" : Str), v)]) (if g = "mark" then some v' else none) := by
  by_cases h : g = "mark"
  · subst h
    rw [if_pos rfl, show List.lookup ("mark" : Str) [(("mark" : Str), v)] = some v by simp [List.lookup]]
    exact r
  · rw [if_neg h, show List.lookup g [(("mark" : Str), v)] = none by
      have n : (g == ("mark" : Str)) = false := by simpa using h
      simp [List.lookup, n]]
    trivial
section
variable {X : Cx} {E : XK} {C f : Addr} {k : Nat} {a e : Expr} {es : List Expr} {Fa : Rho → M Sv} {Fs Fk : Rho → M (List Sv)} {p pos pos2 : Pos}
def mkTl (C : Addr) (ta : TA) : L2.St → Hp → XK → Prop := fun σ H Q => ta σ H fun vs H1 => ∃ v, vs = [v] ∧ ∀ d, H1 d = none → Q (.ref C) (some d) (upd H1 d (.xd [(("mark" : Str), v)]))
theorem pmk_tl {ta : TA} (T : TL X.K X.mg C f) (hr : Room k X.A) (ha : PA X [a] ta) (hg : Gl X "NoLast" := by rfl) (he : starEach (a :: []) X.env = (false, eval a X.env) :: starEach [] X.env := by rfl) (hpl : (backTo pos (starEach [] X.env)).any (·.1) = false := by rfl) :
    PMk X (.Call (.Name "NoLast" p) [a] [] pos) (mkTl C ta) := by
  intro pins s σ H Q I h
  refine wpAny_Call_Name_kw (ld_glob I hg T.gC (PySem.W.callWith_K (h₀ := X.base) I.ok.mod.kin T.kp (thn (ha.run pos pins s σ H _ I h) fun us s1 ⟨vs, H1, I1, r1, v, ev, q1⟩ => ⟨I1.kIn, ?_⟩) he hpl))
  subst ev
  obtain ⟨u, rfl, rv⟩ := vals1 r1
  show wpAny _ _ (call (.ref C) [u]) _ _ _
  have lim := I1.nolimit
  obtain ⟨hp, g, dr, tk, os⟩ := s1
  refine wpAny_call (tl_made T I1.kIn lim (by have := hr.dp; omega) fun h' tk' e d mk => ?_)
  show MkP X pins σ Q (.ref e) ⟨h', g, dr, tk', os⟩
  obtain ⟨oe, fv, hoe, hc, hd, hdat, h1⟩ := mk.self
  obtain ⟨G, g1, g2⟩ := restrict h' fun b => decide (b ≠ e)
  have gk : ∀ b, b ≠ e → G.get? b = h'.get? b := fun b hb => g1 b (decide_eq_true hb)
  have ge : G.get? e = none := g2 e (by simp)
  have old : ∀ b o, hp.get? b = some o → G.get? b = some o := fun b o q => (gk b (Nat.ne_of_lt (Nat.lt_of_lt_of_le (Heap.lt_size q) mk.new))).trans (mk.rest b o q)
  have ob : ObjOk X.prog X.w (upd H1 d (.xd [(("mark" : Str), v)])) G d (.xd [(("mark" : Str), v)]) := ⟨_, mk.fld.at (fun o q => (gk d mk.apart).trans q), fun g => rel_bound rv g⟩
  have J : Inv X pins σ (upd H1 d (.xd [(("mark" : Str), v)])) ⟨G, g, dr, tk', os⟩ := I1.laid (t' := tk') old mk.late ob
  have none_e : upd H1 d (.xd [(("mark" : Str), v)]) e = none := by
    rw [upd_ne (Ne.symm mk.apart)]
    exact I1.hok.fresh mk.new
  refine ⟨e, oe, fv, ⟨G, g, dr, tk', os⟩, _, .ref C, some d, rfl, J, fun b o q => ?_, ge, hoe, ⟨hc, hd⟩, hdat, h1, none_e, rfl, I1.bare, raises_own T.sub T.tyC, q1 d (I1.hok.fresh mk.late)⟩
  have q0 : G.get? b = some o := q
  have hb : b ≠ e := fun z => by
    rw [z, ge] at q0
    cases q0
  exact (gk b hb).symm.trans q0
def gRaise (Fa : Rho → M Sv) (ρ : Rho) : M Out := (Fa ρ).bind fun s => M.thr ⟨"NoLast", some ("mark", s)⟩
theorem s_raise (T : TL X.K X.mg C f) (hc : X.calm = true) (hr : Room k X.A) (tk : Takes X (fun cls d _ H => E cls d H)) (ha : PX X E a Fa) (hg : Gl X "NoLast" := by rfl) (he : starEach (a :: []) X.env = (false, eval a X.env) :: starEach [] X.env := by rfl) (hpl : (backTo pos (starEach [] X.env)).any (·.1) = false := by rfl) :
    PSX X E (.Raise (some (.Call (.Name "NoLast" p) [a] [] pos)) none pos2) (gRaise Fa) := ps_weak (ps_raise hc tk (pmk_tl T hr (pa_cons ha pa_nil he) hg he hpl)) fun D σ H ⟨W, ρ, μ, r, h, e, q⟩ => by
  refine tX_bind h e q fun v s W1 H1 μ1 g1 h1 rs e1 q1 => ⟨v, rfl, fun d hd => ?_⟩
  cases e1
  exact q1 W1 _ (.ref C) (some d) ((Grow.refl _ _ _).out hd fun b hb => upd_ne hb) (h1.rel.lay hd) ⟨⟨C, T.nC, rfl⟩, d, v, rfl, upd_same, rs⟩
end
end Err_NoLast
end Pf

set_option maxHeartbeats 1000000
namespace Pf
open PySem PySem.Spec PyProof.Rows L2
section
variable {l l1 : En} {Fa : Rho → M Sv} {ta : S PyData}
/-- raise of an error with a field, wherever it stands -/
theorem r_raiseP {β : Type} {P : Post Out β} {C f : Str} (h : Jd l Fa ta (pV l1)) {G : Rho → M Out} (hG : G = fun ρ => (Fa ρ).bind fun s => M.thr ⟨C, some (f, s)⟩) : Jd l G (ta.bind fun d => S.thr ⟨C, some (f, d)⟩) P := fun k rest ρ μ e => by
  subst hG
  refine (h k rest ρ μ e).bind fun k1 μ1 a da ⟨z, e1⟩ => ?_
  subst z
  intro r k' q
  cases q
  obtain ⟨g, hg⟩ := e1.pre
  exact ⟨g, by rw [hg]; rfl⟩
/-- a call with keywords -/
theorem e_callK {n m : Nat} {l2 : En} {Fs Fk : Rho → M (List Sv)} {ts us : S (List PyData)} {T : List PyData → S PyData} (h : Jd l Fs ts (pA n l1)) (h2 : Jd l1 Fk us (pA m l2)) : Jd l (callK (liftF T) n m Fs Fk) (ts.bind fun as => us.bind fun bs => T (as ++ bs)) (pV l2) := fun k rest ρ μ e => by
  refine (h k rest ρ μ e).bind fun k1 μ1 as ds ⟨z, hl, e1⟩ => ?_
  subst z
  refine (h2 k1 rest ρ μ1 e1).bind fun k2 μ2 bs es ⟨z, hl2, e2⟩ => ?_
  subst z
  rw [List.length_map, hl, List.length_map, hl2, decide_eq_true rfl, decide_eq_true rfl]
  show Jl _ _ _ _ (liftF T (ds.map Sv.dat ++ es.map Sv.dat)) _ _
  rw [← List.map_append]
  exact lift_run e2 (dats_map (ds ++ es))
end
end Pf

set_option maxHeartbeats 1000000
namespace Pf
open PySem PySem.Spec PyProof.Rows L2
/-! ### zip of any number of tuples and lists, the tuple being held by a name -/
structure ZN (prog : Program) (w : World) (A : Around) (z TI TO : Addr) (js : List Addr) (fp : Nat → List Addr) (P : Nat → Value → Prop) (St St' : Nat → Heap → Prop) : Prop where
  item : ∀ k j, js[k]? = some j → ∀ (s : Shared) (Q E : Value → Shared → Prop), St k s.heap → (∀ x h' tk, P k x → St' k h' → Heap.SameBut j s.heap h' → Q x { heap := h', gens := s.gens, drawn := s.drawn, toks := tk, os := s.os }) → wpAny (model prog w) A (Builtin.SmallTypes.nextOf (.ref j)) Q E s
  keep : ∀ k h h', St k h → (∀ b ∈ fp k, ∀ o, h.get? b = some o → h'.get? b = some o) → St k h'
  keep' : ∀ k h h', St' k h → (∀ b ∈ fp k, ∀ o, h.get? b = some o → h'.get? b = some o) → St' k h'
  zf : ∀ k, z ∉ fp k
  Tf : ∀ k, TO ∉ fp k
  jf : ∀ k l j, js[l]? = some j → l ≠ k → j ∉ fp k
  TIz : TI ≠ z
  TITO : TI ≠ TO
  TIj : TI ∉ js
  TOz : TO ≠ z
  zj : z ∉ js
  TOj : TO ∉ js
structure Zm (js : List Addr) (St St' : Nat → Heap → Prop) (z TO : Addr) (m : Nat) (s0 s : Shared) : Prop where
  lo : ∀ k, k < m → k < js.length → St' k s.heap
  hi : ∀ k, m ≤ k → k < js.length → St k s.heap
  sz : s.heap.objs.size = s0.heap.objs.size
  fr : ∀ c, c ≠ z → c ≠ TO → c ∉ js → s.heap.get? c = s0.heap.get? c
  gn : s.gens = s0.gens
  dr : s.drawn = s0.drawn
  os : s.os = s0.os
section
variable {prog : Program} {w : World} {A : Around} {z TI TO : Addr} {js : List Addr} {fp : Nat → List Addr} {P : Nat → Value → Prop} {St St' : Nat → Heap → Prop}
theorem Zm.draw (Z : ZN prog w A z TI TO js fp P St St') {m : Nat} {j : Addr} (hj : js[m]? = some j) {s0 s : Shared} (M : Zm js St St' z TO m s0 s) {h' : Heap} {tk : Nat} (h1 : St' m h') (h2 : Heap.SameBut j s.heap h') : Zm js St St' z TO (m + 1) s0 { heap := h', gens := s.gens, drawn := s.drawn, toks := tk, os := s.os } := by
  have hm : j ∈ js := List.mem_of_getElem? hj
  refine ⟨fun k hk hl => ?_, fun k hk hl => ?_, h2.1.trans M.sz, fun c c1 c2 c3 => (h2.2 c fun q => c3 (q ▸ hm)).trans (M.fr c c1 c2 c3), M.gn, M.dr, M.os⟩
  · by_cases q : k = m
    · exact q ▸ h1
    · exact Z.keep' k _ _ (M.lo k (by omega) hl) fun b hb o e => (h2.2 b fun q' => Z.jf k m j hj (Ne.symm q) (q' ▸ hb)).trans e
  · exact Z.keep k _ _ (M.hi k (by omega) hl) fun b hb o e => (h2.2 b fun q' => Z.jf k m j hj (by omega) (q' ▸ hb)).trans e
/-- a change of z or of the owned tuple -/
theorem Zm.side (Z : ZN prog w A z TI TO js fp P St St') {m : Nat} {s0 s : Shared} (M : Zm js St St' z TO m s0 s) {h' : Heap} {tk : Nat} {b : Addr} (hb : b = z ∨ b = TO) (h2 : Heap.SameBut b s.heap h') : Zm js St St' z TO m s0 { heap := h', gens := s.gens, drawn := s.drawn, toks := tk, os := s.os } := by
  refine ⟨fun k hk hl => Z.keep' k _ _ (M.lo k hk hl) fun c hc o e => (h2.2 c fun q => ?_).trans e, fun k hk hl => Z.keep k _ _ (M.hi k hk hl) fun c hc o e => (h2.2 c fun q => ?_).trans e, h2.1.trans M.sz, fun c c1 c2 c3 => (h2.2 c fun q => ?_).trans (M.fr c c1 c2 c3), M.gn, M.dr, M.os⟩
  · rcases hb with rfl | rfl
    · exact Z.zf k (q ▸ hc)
    · exact Z.Tf k (q ▸ hc)
  · rcases hb with rfl | rfl
    · exact Z.zf k (q ▸ hc)
    · exact Z.Tf k (q ▸ hc)
  · rcases hb with rfl | rfl
    · exact c1 q
    · exact c2 q
def zObj (f0 : Value) (f : Bool) (TI TO : Addr) : Obj := { cls := .type "zip", data := .fields #[f0, .bool f, .bool false, .ref TI, .ref TO] }
def tObj (vs : List Value) : Obj := { cls := .type "tuple", data := .seq vs.toArray }
theorem zipFree {s : Shared} {f0 : Value} {f : Bool} (hz : s.heap.get? z = some (zObj f0 f TI TO)) (hf : f0 = .none ∨ ∃ T : Addr, f0 = rawInt T) {K : Bool → Shared → Prop} {E : Value → Shared → Prop} (h1 : K true s)
    (h2 : ∀ h', h'.get? z = some (zObj f0 true TI TO) → Heap.SameBut z s.heap h' → K false { heap := h', gens := s.gens, drawn := s.drawn, toks := s.toks, os := s.os }) : wpAny (model prog w) A (Builtin.SmallTypes.ownedTupleIsFree (.ref z)) K E s := by
  unfold Builtin.SmallTypes.ownedTupleIsFree
  refine wpAny_bind (wpAny_field hz rfl rfl ?_)
  rcases hf with rfl | ⟨T, rfl⟩
  · exact wpAny_pure h1
  · refine wpAny_bind ?_
    show wpAny _ _ (Sem.loadIfAlive T Sem.pure) _ _ _
    intro Γ p hΓ
    rw [Sem.wp_loadIfAlive]
    revert Γ p hΓ
    show wpAny (model prog w) A (pure (s.heap.get? T)) _ E s
    refine wpAny_pure ?_
    cases hT : s.heap.get? T with
    | none => exact wpAny_pure h1
    | some o =>
      show wpAny _ _ (field (Value.ref z) 1 >>= _) _ _ _
      refine wpAny_bind (wpAny_field hz rfl rfl ?_)
      cases f with
      | true =>
        exact wpAny_pure (h2 s.heap hz ⟨rfl, fun _ _ => rfl⟩)
      | false =>
        show wpAny _ _ (setField (Value.ref z) 1 (Value.bool true) >>= _) _ _ _
        refine wpAny_bind (wpAny_setField_rec hz (by show 1 < 5; decide) fun h' e1 e2 => ?_)
        exact wpAny_pure (h2 h' e1 e2)
theorem zipN_next (Z : ZN prog w A z TI TO js fp P St St') {s : Shared} {f0 : Value} {f : Bool} {os : List Value} (hz : s.heap.get? z = some (zObj f0 f TI TO)) (hf : f0 = .none ∨ ∃ T : Addr, f0 = rawInt T)
    (hTI : s.heap.get? TI = some (tObj (js.map .ref))) (hTO : s.heap.get? TO = some (tObj os)) (hos : os.length = js.length) (hst : ∀ k, k < js.length → St k s.heap) (hne : js ≠ []) (hsz : js.length ≤ 1000) {E : Value → Shared → Prop} {Q : Value → Shared → Prop}
    (hQ : ∀ (vals os' : List Value) (h' : Heap) (tk : Nat) (f0' : Value) (f' : Bool), (f0' = .none ∨ ∃ T : Addr, f0' = rawInt T) → vals.length = js.length → os'.length = js.length → (∀ k x, vals[k]? = some x → P k x) → (∀ k, k < js.length → St' k h') → h'.get? z = some (zObj f0' f' TI TO) → h'.get? TO = some (tObj os') → h'.get? s.heap.objs.size = some (tObj vals) → h'.objs.size = s.heap.objs.size + 1 → (∀ c o, c ≠ z → c ≠ TO → c ∉ js → s.heap.get? c = some o → h'.get? c = some o) → Q (.ref s.heap.objs.size) { heap := h', gens := s.gens, drawn := s.drawn, toks := tk, os := s.os }) :
    wpAny (model prog w) A (Builtin.«zip.__next__» { pos := [.ref z] }) (fun fin s' => ∃ v, fin = Fin.done (Flow.ret v) ∧ Q v s') E s := by
  unfold Builtin.«zip.__next__»
  refine wpAny_bind ?_
  show wpAny _ _ (pure (Value.ref z, [])) _ _ _
  refine wpAny_pure ?_
  refine wpAny_bind (wpAny_field hz rfl rfl ?_)
  refine wpAny_bind (wpAny_field hz rfl rfl ?_)
  refine wpAny_bind (wpAny_seqItems hTI rfl ?_)
  obtain ⟨j0, jr, rfl⟩ : ∃ j0 jr, js = j0 :: jr := match js, hne with | j0 :: jr, _ => ⟨j0, jr, rfl⟩
  refine wpAny_bind (zipFree hz hf ?own fun h1 z1 k1 => ?held)
  case held =>
    have M0 : Zm (j0 :: jr) St St' z TO 0 s s := ⟨fun k hk => absurd hk (Nat.not_lt_zero k), fun k _ hk => hst k hk, rfl, fun _ _ _ _ => rfl, rfl, rfl, rfl⟩
    have M1 := M0.side Z (tk := s.toks) (.inl rfl) k1
    have t1 : h1.get? TO = some (tObj os) := (k1.2 TO Z.TOz).trans hTO
    refine wpAny_bind (wpAny_forIn_array' _ (fun (rest : List Value) (b : Option PySem.Fin × Array Value) s' => ∃ m : Nat, b.1 = none ∧ m ≤ (j0 :: jr).length ∧ rest = ((j0 :: jr).drop m).map Value.ref ∧ b.2.size = m ∧ (∀ k x, b.2[k]? = some x → P k x) ∧ Zm (j0 :: jr) St St' z TO m s s' ∧ s'.heap.get? z = some (zObj f0 true TI TO) ∧ s'.heap.get? TO = some (tObj os)) _ (fun it rest b s' h => ?_) (fun b s' h => ?_) _ _ ⟨0, rfl, Nat.zero_le _, by simp, rfl, fun k x e => by simp at e, M1, z1, t1⟩)
    · obtain ⟨m, b1, hm, hr, hs, hp, M, z2, t2⟩ := h
      have hj : ∃ j, (j0 :: jr)[m]? = some j ∧ it = .ref j ∧ rest = ((j0 :: jr).drop (m + 1)).map Value.ref := by
        by_cases q : m < (j0 :: jr).length
        · rw [List.drop_eq_getElem_cons q, List.map_cons] at hr
          injection hr with r1 r2
          exact ⟨_, List.getElem?_eq_getElem q, r1, r2⟩
        · rw [List.drop_eq_nil_of_le (by omega)] at hr
          cases hr
      obtain ⟨j, ej, rfl, er⟩ := hj
      have hml : m < (j0 :: jr).length := (List.getElem?_eq_some_iff.mp ej).1
      have hjz : j ≠ z := fun q => Z.zj (q ▸ List.mem_of_getElem? ej)
      have hjT : j ≠ TO := fun q => Z.TOj (q ▸ List.mem_of_getElem? ej)
      refine wpAny_bind (wpAny_holding ?_)
      show wpAny _ _ (Builtin.SmallTypes.nextOf (Value.ref j) >>= fun x => pure (some x)) _ _ _
      refine wpAny_bind (Z.item m j ej _ _ _ (M.hi m (Nat.le_refl _) hml) fun x h' tk px st' sb => ?_)
      refine wpAny_pure (wpAny_pure ?_)
      refine ⟨m + 1, rfl, hml, er, by show (b.2.push x).size = _; rw [Array.size_push, hs], fun k y e => ?_, M.draw Z ej st' sb, (sb.2 z (Ne.symm hjz)).trans z2, (sb.2 TO (Ne.symm hjT)).trans t2⟩
      have e : (b.2.push x)[k]? = some y := e
      rw [Array.getElem?_push] at e
      split at e
      · rename_i q
        cases e
        rw [q, hs]
        exact px
      · exact hp k y e
    · obtain ⟨m, b1, hm, hr, hs, hp, M, z2, t2⟩ := h
      obtain ⟨b1', items⟩ := b
      cases b1
      have hml : m = (j0 :: jr).length := by
        by_cases q : m < (j0 :: jr).length
        · rw [List.drop_eq_getElem_cons q] at hr
          cases hr
        · omega
      subst hml
      show wpAny _ _ (newTuple items.toList >>= fun v => ret v) _ _ _
      have zlt := Heap.lt_size z2
      have tlt := Heap.lt_size t2
      refine wpAny_bind (wpAny_newTuple (wpAny_pure ⟨_, rfl, ?_⟩) (by show items.toList.length ≤ _; rw [Array.length_toList, hs]; exact Nat.le_trans hsz (by decide)))
      have push : ∀ c o, s'.heap.get? c = some o → (s'.heap.push { cls := Value.type "tuple", data := Data.seq items.toList.toArray }).get? c = some o := fun c o e => Heap.get?_push_of_some _ e
      rw [M.gn, M.dr, M.os, M.sz]
      refine hQ items.toList os _ _ f0 true hf (by rw [Array.length_toList, hs]) hos (fun k x e => hp k x (by simpa using e)) (fun k hk => Z.keep' k _ _ (M.lo k hk hk) fun b _ o e => push b o e) (push _ _ z2) (push _ _ t2) ?_ ?_ fun c o c1 c2 c3 e => push c o ((M.fr c c1 c2 c3).trans e)
      · rw [← M.sz]
        exact Heap.get?_push_size _ rfl
      · rw [← M.sz]
        exact Array.size_push _
  case own =>
    refine wpAny_bind (wpAny_rule ?_)
    refine wpAny_bind (wpAny_field hz rfl rfl ?_)
    refine wpAny_bind (wpAny_setField_rec hz (by show 0 < 5; decide) fun h1 z1 k1 => ?_)
    have M0 : Zm (j0 :: jr) St St' z TO 0 s s := ⟨fun k hk => absurd hk (Nat.not_lt_zero k), fun k _ hk => hst k hk, rfl, fun _ _ _ _ => rfl, rfl, rfl, rfl⟩
    have M1 := M0.side Z (tk := s.toks) (.inl rfl) k1
    have z1 : h1.get? z = some (zObj .ellipsis f TI TO) := z1
    have t1 : h1.get? TO = some (tObj os) := (k1.2 TO Z.TOz).trans hTO
    refine wpAny_bind (wpAny_forIn_list _ (fun (rest : List (Value × Nat)) (b : Option PySem.Fin × Unit) s' => ∃ (m : Nat) (os' : List Value), b.1 = none ∧ m ≤ (j0 :: jr).length ∧ rest = (((j0 :: jr).map Value.ref).zipIdx).drop m ∧ os'.length = (j0 :: jr).length ∧ (∀ k x, k < m → os'[k]? = some x → P k x) ∧ Zm (j0 :: jr) St St' z TO m s s' ∧ s'.heap.get? z = some (zObj .ellipsis f TI TO) ∧ s'.heap.get? TO = some (tObj os')) _ (fun it rest b s' h => ?_) (fun b s' h => ?_) _ _ ⟨0, os, rfl, Nat.zero_le _, by simp, hos, fun k x e => absurd e (Nat.not_lt_zero k), M1, z1, t1⟩)
    · obtain ⟨m, os', b1, hm, hr, hs, hp, M, z2, t2⟩ := h
      have hj : ∃ j, (j0 :: jr)[m]? = some j ∧ it = (.ref j, m) ∧ rest = (((j0 :: jr).map Value.ref).zipIdx).drop (m + 1) := by
        by_cases q : m < (j0 :: jr).length
        · rw [List.drop_eq_getElem_cons (by rw [List.length_zipIdx, List.length_map]; exact q)] at hr
          injection hr with r1 r2
          exact ⟨_, List.getElem?_eq_getElem q, by rw [r1, List.getElem_zipIdx, List.getElem_map, Nat.zero_add], r2⟩
        · rw [List.drop_eq_nil_of_le (by rw [List.length_zipIdx, List.length_map]; omega)] at hr
          cases hr
      obtain ⟨j, ej, rfl, er⟩ := hj
      have hml : m < (j0 :: jr).length := (List.getElem?_eq_some_iff.mp ej).1
      have hjz : j ≠ z := fun q => Z.zj (q ▸ List.mem_of_getElem? ej)
      have hjT : j ≠ TO := fun q => Z.TOj (q ▸ List.mem_of_getElem? ej)
      refine wpAny_bind (wpAny_onRaise ?_)
      show wpAny _ _ (Builtin.SmallTypes.nextOf (Value.ref j) >>= fun x => pure (some x)) _ _ _
      refine wpAny_bind (Z.item m j ej _ _ _ (M.hi m (Nat.le_refl _) hml) fun x h' tk px st' sb => ?_)
      have z3 := (sb.2 z (Ne.symm hjz)).trans z2
      have t3 := (sb.2 TO (Ne.symm hjT)).trans t2
      have M3 := M.draw Z (tk := tk) ej st' sb
      refine wpAny_pure (wpAny_bind (wpAny_seqItems t3 rfl (wpAny_bind (wpAny_updateSeq t3 rfl (wpAny_bind (wpAny_letGo (wpAny_pure ?_))) ?_ ?_))))
      · refine ⟨m + 1, os'.set m x, rfl, hml, er, by rw [List.length_set, hs], fun k y hk e => ?_, M3.side Z (.inr rfl) (Heap.SameBut.update ..), ((Heap.SameBut.update _ _ _).2 z (Ne.symm Z.TOz)).trans z3, ?_⟩
        · rw [List.getElem?_set] at e
          split at e
          · rename_i q
            split at e
            · cases e
              exact q ▸ px
            · cases e
          · rename_i q
            exact hp k y (by omega) e
        · refine (Heap.get?_update_self _ t3 rfl).trans ?_
          show some ({ cls := .type "tuple", data := .seq (os'.toArray.setIfInBounds m x) (if ((os'.toArray.setIfInBounds m x).size == os'.toArray.size) = true then 0 else 0 + 1) } : Obj) = _
          rw [Array.size_setIfInBounds, if_pos (beq_self_eq_true _), List.setIfInBounds_toArray]
          rfl
      · show os'.toArray.size ≤ _
        rw [List.size_toArray, hs]
        exact Nat.le_trans hsz (by decide)
      · show (os'.toArray.setIfInBounds m x).size ≤ _
        rw [Array.size_setIfInBounds, List.size_toArray, hs]
        exact Nat.le_trans hsz (by decide)
    · obtain ⟨m, os', b1, hm, hr, hs, hp, M, z2, t2⟩ := h
      obtain ⟨b1', u⟩ := b
      cases b1
      have hml : m = (j0 :: jr).length := by
        by_cases q : m < (j0 :: jr).length
        · rw [List.drop_eq_getElem_cons (by rw [List.length_zipIdx, List.length_map]; exact q)] at hr
          cases hr
        · omega
      subst hml
      have zlt := Heap.lt_size z2
      have tlt := Heap.lt_size t2
      have push : ∀ c o, s'.heap.get? c = some o → (s'.heap.push (tObj os')).get? c = some o := fun c o e => Heap.get?_push_of_some _ e
      show wpAny _ _ (seqItems? (Value.ref TO) >>= _) _ _ _
      refine wpAny_bind (wpAny_seqItems t2 rfl (wpAny_bind (wpAny_newTuple (wpAny_bind ?_) (by show os'.length ≤ _; rw [hs]; exact Nat.le_trans hsz (by decide)))))
      have ep : ({ cls := Value.type "tuple", data := Data.seq os'.toArray.toList.toArray } : Obj) = tObj os' := rfl
      rw [ep]
      show wpAny _ _ (setField (Value.ref z) 0 (rawInt s'.heap.objs.size) >>= fun _ => setField (Value.ref z) 1 (Value.bool false)) _ _ _
      refine wpAny_bind (wpAny_setField_rec (push _ _ z2) (by show 0 < 5; decide) fun h4 z4 k4 => ?_)
      refine wpAny_setField_rec z4 (by show 1 < 5; decide) fun h5 z5 k5 => wpAny_pure ⟨_, rfl, ?_⟩
      have k6 : ∀ c o, c ≠ z → s'.heap.get? c = some o → h5.get? c = some o := fun c o c1 e => (k5.2 c c1).trans ((k4.2 c c1).trans (push c o e))
      show Q (Value.ref s'.heap.objs.size) { heap := h5, gens := s'.gens, drawn := s'.drawn, toks := s'.toks, os := s'.os }
      rw [M.gn, M.dr, M.os, M.sz]
      refine hQ os' os' h5 _ (rawInt s'.heap.objs.size) false (.inr ⟨_, rfl⟩) hs hs (fun k x e => hp k x (by rw [← hs]; exact (List.getElem?_eq_some_iff.mp e).1) e) (fun k hk => Z.keep' k _ _ (M.lo k hk hk) fun b hb o e => k6 b o (fun q => Z.zf k (q ▸ hb)) e) z5 (k6 _ _ Z.TOz t2) ?_ ?_ fun c o c1 c2 c3 e => k6 c o c1 ((M.fr c c1 c2 c3).trans e)
      · rw [← M.sz]
        refine (k5.2 _ (Nat.ne_of_gt zlt)).trans ((k4.2 _ (Nat.ne_of_gt zlt)).trans ?_)
        exact Heap.get?_push_size _ rfl
      · rw [← M.sz, k5.1, k4.1]
        exact Array.size_push _
theorem zipN_stop {j0 : Addr} {jr : List Addr} {f0 : Value} {f : Bool} {os : List Value} {s : Shared} (hz : s.heap.get? z = some (zObj f0 f TI TO)) (hf : f0 = .none ∨ ∃ T : Addr, f0 = rawInt T)
    (hTI : s.heap.get? TI = some (tObj ((j0 :: jr).map .ref))) (hTO : s.heap.get? TO = some (tObj os)) (hzj : z ≠ j0) {S0 : Heap → Prop} (h0 : S0 s.heap) (hk : ∀ h, Heap.SameBut z s.heap h → S0 h)
    (hd : ∀ (s : Shared) (Q E : Value → Shared → Prop), S0 s.heap → (∀ h' e, Heap.ExtBut j0 s.heap h' → (∃ o, h'.get? e = some o ∧ o.cls = .type "StopIteration") → E (.ref e) { heap := h', gens := s.gens, drawn := s.drawn, toks := s.toks, os := s.os }) → wpAny (model prog w) A (Builtin.SmallTypes.nextOf (.ref j0)) Q E s)
    {E : Value → Shared → Prop} {Q : PySem.Fin → Shared → Prop}
    (hQ : ∀ h' e, (∀ c o, c ≠ z → c ≠ j0 → s.heap.get? c = some o → h'.get? c = some o) → (∃ o, h'.get? e = some o ∧ o.cls = .type "StopIteration") → E (.ref e) { heap := h', gens := s.gens, drawn := s.drawn, toks := s.toks, os := s.os }) :
    wpAny (model prog w) A (Builtin.«zip.__next__» { pos := [.ref z] }) Q E s := by
  unfold Builtin.«zip.__next__»
  refine wpAny_bind ?_
  show wpAny _ _ (pure (Value.ref z, [])) _ _ _
  refine wpAny_pure ?_
  refine wpAny_bind (wpAny_field hz rfl rfl ?_)
  refine wpAny_bind (wpAny_field hz rfl rfl ?_)
  refine wpAny_bind (wpAny_seqItems hTI rfl ?_)
  refine wpAny_bind (zipFree hz hf ?own fun h1 z1 k1 => ?held)
  case held =>
    have a1 := hk h1 k1
    refine wpAny_bind (wpAny_forIn_array' _ (fun (rest : List Value) (b : Option PySem.Fin × Array Value) s' => rest = (j0 :: jr).map Value.ref ∧ s' = { heap := h1, gens := s.gens, drawn := s.drawn, toks := s.toks, os := s.os }) _ (fun it rest b s' h => ?_) (fun b s' h => ?_) _ _ ⟨rfl, rfl⟩)
    · obtain ⟨hr, rfl⟩ := h
      injection hr with r1 r2
      subst r1
      refine wpAny_bind (wpAny_holding ?_)
      show wpAny _ _ (Builtin.SmallTypes.nextOf (Value.ref j0) >>= fun x => pure (some x)) _ _ _
      refine wpAny_bind (hd _ _ _ a1 fun h' e x1 x2 => hQ h' e (fun c o c1 c2 q => x1 c o c2 ((k1.2 c c1).trans q)) x2)
    · cases h.1
  case own =>
    refine wpAny_bind (wpAny_rule ?_)
    refine wpAny_bind (wpAny_field hz rfl rfl ?_)
    refine wpAny_bind (wpAny_setField_rec hz (by show 0 < 5; decide) fun h1 z1 k1 => ?_)
    have a1 := hk h1 k1
    refine wpAny_bind (wpAny_forIn_list _ (fun (rest : List (Value × Nat)) (b : Option PySem.Fin × Unit) s' => rest = ((j0 :: jr).map Value.ref).zipIdx ∧ s' = { heap := h1, gens := s.gens, drawn := s.drawn, toks := s.toks, os := s.os }) _ (fun it rest b s' h => ?_) (fun b s' h => ?_) _ _ ⟨rfl, rfl⟩)
    · obtain ⟨hr, rfl⟩ := h
      injection hr with r1 r2
      subst r1
      refine wpAny_bind (wpAny_onRaise ?_)
      show wpAny _ _ (Builtin.SmallTypes.nextOf (Value.ref j0) >>= fun x => pure (some x)) _ _ _
      refine wpAny_bind (hd _ _ _ a1 fun h' e x1 x2 => ?_)
      have z2 := x1 z _ hzj z1
      refine wpAny_setField_rec z2 (by show 0 < 5; decide) fun h2 z3 k3 => ?_
      obtain ⟨o, y1, y2⟩ := x2
      by_cases q : e = z
      · subst q
        have w := Option.some.inj (z2.symm.trans y1)
        rw [← w] at y2
        have y3 : Value.type "zip" = Value.type "StopIteration" := y2
        injection y3 with y4
        exact absurd y4 (by decide)
      · exact hQ h2 e (fun c o c1 c2 q => (k3.2 c c1).trans (x1 c o c2 ((k1.2 c c1).trans q))) ⟨o, (k3.2 e q).trans y1, y2⟩
    · cases h.1
theorem nextN_item (Z : ZN prog w A.in1 z TI TO js fp P St St') {s : Shared} {f0 : Value} {f : Bool} {os : List Value} (hz : s.heap.get? z = some (zObj f0 f TI TO)) (hf : f0 = .none ∨ ∃ T : Addr, f0 = rawInt T)
    (hTI : s.heap.get? TI = some (tObj (js.map .ref))) (hTO : s.heap.get? TO = some (tObj os)) (hos : os.length = js.length) (hst : ∀ k, k < js.length → St k s.heap) (hne : js ≠ []) (hsz : js.length ≤ 1000) {E : Value → Shared → Prop} {Q : Option Value → Shared → Prop}
    (hQ : ∀ (vals os' : List Value) (h' : Heap) (tk : Nat) (f0' : Value) (f' : Bool), (f0' = .none ∨ ∃ T : Addr, f0' = rawInt T) → vals.length = js.length → os'.length = js.length → (∀ k x, vals[k]? = some x → P k x) → (∀ k, k < js.length → St' k h') → h'.get? z = some (zObj f0' f' TI TO) → h'.get? TO = some (tObj os') → h'.get? s.heap.objs.size = some (tObj vals) → h'.objs.size = s.heap.objs.size + 1 → (∀ c o, c ≠ z → c ≠ TO → c ∉ js → s.heap.get? c = some o → h'.get? c = some o) → Q (some (.ref s.heap.objs.size)) { heap := h', gens := s.gens, drawn := s.drawn, toks := tk, os := s.os }) :
    wpAny (model prog w) A (pyNext (.ref z)) Q E s := by
  unfold pyNext
  have ty : s.TypeIs (.ref z) "zip" := ⟨_, hz, rfl⟩
  refine wpAny_bind (wpAny_attempt (wpAny_callSpecial?_slot ty F.slot_zip_next (wpAny_call_entry F.slot_zip_next ty F.entry_zip_next ?_)))
  exact zipN_next Z hz hf hTI hTO hos hst hne hsz fun vals os' h' tk f0' f' a1 a2 a3 a4 a5 a6 a7 a8 a9 a10 => wpAny_pure (hQ vals os' h' tk f0' f' a1 a2 a3 a4 a5 a6 a7 a8 a9 a10)
theorem nextN_stop {j0 : Addr} {jr : List Addr} {f0 : Value} {f : Bool} {os : List Value} {s : Shared} (hz : s.heap.get? z = some (zObj f0 f TI TO)) (hf : f0 = .none ∨ ∃ T : Addr, f0 = rawInt T)
    (hTI : s.heap.get? TI = some (tObj ((j0 :: jr).map .ref))) (hTO : s.heap.get? TO = some (tObj os)) (hzj : z ≠ j0) {S0 : Heap → Prop} (h0 : S0 s.heap) (hk : ∀ h, Heap.SameBut z s.heap h → S0 h)
    (hd : ∀ (s : Shared) (Q E : Value → Shared → Prop), S0 s.heap → (∀ h' e, Heap.ExtBut j0 s.heap h' → (∃ o, h'.get? e = some o ∧ o.cls = .type "StopIteration") → E (.ref e) { heap := h', gens := s.gens, drawn := s.drawn, toks := s.toks, os := s.os }) → wpAny (model prog w) A.in1 (Builtin.SmallTypes.nextOf (.ref j0)) Q E s)
    {E : Value → Shared → Prop} {Q : Option Value → Shared → Prop}
    (hQ : ∀ h', (∀ c o, c ≠ z → c ≠ j0 → s.heap.get? c = some o → h'.get? c = some o) → Q none { heap := h', gens := s.gens, drawn := s.drawn, toks := s.toks, os := s.os }) :
    wpAny (model prog w) A (pyNext (.ref z)) Q E s := by
  unfold pyNext
  have ty : s.TypeIs (.ref z) "zip" := ⟨_, hz, rfl⟩
  refine wpAny_bind (wpAny_attempt (wpAny_callSpecial?_slot ty F.slot_zip_next (wpAny_call_entry F.slot_zip_next ty F.entry_zip_next ?_)))
  refine zipN_stop hz hf hTI hTO hzj h0 hk hd fun h' e x1 ⟨o, x2, x3⟩ => ?_
  refine wpAny_bind (wpAny_isInstance (T := "StopIteration") (b := true) ⟨o, x2, x3⟩ (by with_unfolding_all rfl) ?_)
  exact wpAny_pure (hQ h' x1)
theorem iterN {s : Shared} {f0 : Value} {f : Bool} {E : Value → Shared → Prop} {Q : Value → Shared → Prop} (hz : s.heap.get? z = some (zObj f0 f TI TO)) (hq : Q (.ref z) s) : wpAny (model prog w) A (pyIter (.ref z)) Q E s := by
  have ty : s.TypeIs (.ref z) "zip" := ⟨_, hz, rfl⟩
  refine wpAny_pyIter_slot (T := "zip") (id := "zip.__iter__") ty F.slot_zip_iter (wpAny_call_entry F.slot_zip_iter ty F.entry_zip_iter ?_)
  unfold Builtin.«dict_keyiterator.__iter__»
  refine wpAny_bind ?_
  show wpAny _ _ (pure (Value.ref z, [])) _ _ _
  exact wpAny_pure (wpAny_pure ⟨_, rfl, "zip", _, ty, F.slot_zip_next.1, hq⟩)
theorem zck2 {vs : List Value} (h : vs.length = 2) : checkBuiltinCall "zip.__new__" { pos := Value.type "zip" :: vs } = pure () := by
  match vs, h with
  | [_, _], _ => with_unfolding_all rfl
theorem newClass_zip (rest : List Value) : Builtin.SmallTypes.newClass "zip" { pos := .type "zip" :: rest } = pure (.type "zip", rest) := by
  rfl
theorem zipN_new {cs : List (Bool × Addr)} {s : Shared} (hc : ∀ c ∈ cs, ∃ its, HpG c.1 s.heap c.2 its) (hl : cs.length ≤ 1000) (hck : checkBuiltinCall "zip.__new__" { pos := Value.type "zip" :: cs.map fun c => Value.ref c.2 } = pure ()) {E : Value → Shared → Prop} {Q : Value → Shared → Prop}
    (hQ : ∀ h' : Heap, h'.get? (s.heap.objs.size + cs.length + 2) = some (zObj .none false (s.heap.objs.size + cs.length) (s.heap.objs.size + cs.length + 1)) →
      h'.get? (s.heap.objs.size + cs.length) = some (tObj (((List.range cs.length).map (s.heap.objs.size + ·)).map .ref)) → h'.get? (s.heap.objs.size + cs.length + 1) = some (tObj (List.replicate cs.length .none)) →
      (∀ k c, cs[k]? = some c → h'.get? (s.heap.objs.size + k) = some (itObj c.1 c.2)) → (∀ c o, s.heap.get? c = some o → h'.get? c = some o) → Q (.ref (s.heap.objs.size + cs.length + 2)) { heap := h', gens := s.gens, drawn := s.drawn, toks := s.toks, os := s.os }) :
    wpAny (model prog w) A (call (.type "zip") (cs.map fun c => .ref c.2)) Q E s := by
  refine callType_newIn (S := fun _ R s1 => s1 = s ∧ ∀ h' : Heap, h'.get? (s.heap.objs.size + cs.length + 2) = some (zObj .none false (s.heap.objs.size + cs.length) (s.heap.objs.size + cs.length + 1)) →
      h'.get? (s.heap.objs.size + cs.length) = some (tObj (((List.range cs.length).map (s.heap.objs.size + ·)).map .ref)) → h'.get? (s.heap.objs.size + cs.length + 1) = some (tObj (List.replicate cs.length .none)) →
      (∀ k c, cs[k]? = some c → h'.get? (s.heap.objs.size + k) = some (itObj c.1 c.2)) → (∀ c o, s.heap.get? c = some o → h'.get? c = some o) → R (.ok (.ret (.ref (s.heap.objs.size + cs.length + 2)))) { heap := h', gens := s.gens, drawn := s.drawn, toks := s.toks, os := s.os }) F.called_zip (by decide) ?_ ?_ ?_ F.entry_zip_new ?_ ?_
  · rfl
  · exact hck
  · exact fun _ => rfl
  · intro A R s1 ⟨e, hR⟩
    subst e
    unfold Builtin.«zip.__new__»
    rw [newClass_zip]
    refine wpAny_bind (wpAny_pure ?_)
    show wpAny _ _ (Builtin.SmallTypes.iterAll (cs.map fun c => Value.ref c.2) >>= fun its => newTuple its >>= fun a => newTuple (its.map fun _ => Value.none) >>= fun b => newObj (.type "zip") (Data.fields #[.none, .bool false, .bool false, a, b]) >>= fun r => ret r) _ _ _
    refine wpAny_bind ?_
    unfold Builtin.SmallTypes.iterAll
    refine wpAny_bind (wpAny_forIn_list _ (fun (rest : List Value) (b : Array Value) s' => ∃ m : Nat, m ≤ cs.length ∧ rest = (cs.drop m).map (fun c => Value.ref c.2) ∧ b.toList = ((List.range m).map (s1.heap.objs.size + ·)).map Value.ref ∧ s'.heap.objs.size = s1.heap.objs.size + m ∧ (∀ k c, k < m → cs[k]? = some c → s'.heap.get? (s1.heap.objs.size + k) = some (itObj c.1 c.2)) ∧ (∀ c o, s1.heap.get? c = some o → s'.heap.get? c = some o) ∧ s'.gens = s1.gens ∧ s'.drawn = s1.drawn ∧ s'.toks = s1.toks ∧ s'.os = s1.os) _ (fun it rest b s' h => ?_) (fun b s' h => ?_) _ _ ⟨0, Nat.zero_le _, rfl, rfl, rfl, fun k c hk => absurd hk (Nat.not_lt_zero k), fun c o e => e, rfl, rfl, rfl, rfl⟩)
    · obtain ⟨m, hm, hr, hb, hs, ho, hk, g1, g2, g3, g4⟩ := h
      have hj : ∃ c, cs[m]? = some c ∧ it = .ref c.2 ∧ rest = (cs.drop (m + 1)).map fun c => Value.ref c.2 := by
        by_cases q : m < cs.length
        · rw [List.drop_eq_getElem_cons q, List.map_cons] at hr
          injection hr with r1 r2
          exact ⟨_, List.getElem?_eq_getElem q, r1, r2⟩
        · rw [List.drop_eq_nil_of_le (by omega)] at hr
          cases hr
      obtain ⟨c, ec, rfl, er⟩ := hj
      have hml : m < cs.length := (List.getElem?_eq_some_iff.mp ec).1
      obtain ⟨its, hh⟩ := hc c (List.mem_of_getElem? ec)
      have bg := begG c.1 c.2 its
      refine wpAny_bind (wpAny_holding (bg.iter _ _ _ _ _ _ (bg.keeps _ _ hh hk) (wpAny_pure ?_)))
      refine ⟨m + 1, hml, er, ?_, ?_, fun k d hk2 ed => ?_, fun d o e => Heap.get?_push_of_some _ (hk d o e), g1, g2, g3, g4⟩
      · rw [Array.toList_push, hb, List.range_succ, List.map_append, List.map_append, hs]
        rfl
      · show (s'.heap.push _).objs.size = _
        have : (s'.heap.push (itObj c.1 c.2)).objs.size = s'.heap.objs.size + 1 := Array.size_push _
        rw [this, hs]
        omega
      · by_cases q : k = m
        · subst q
          have := ec.symm.trans ed
          cases this
          exact Heap.get?_push_at hs.symm bg.free
        · exact Heap.get?_push_of_some _ (ho k d (by omega) ed)
    · obtain ⟨m, hm, hr, hb, hs, ho, hk, g1, g2, g3, g4⟩ := h
      have hml : m = cs.length := by
        by_cases q : m < cs.length
        · rw [List.drop_eq_getElem_cons q] at hr
          cases hr
        · omega
      subst hml
      refine wpAny_pure ?_
      rw [hb]
      have l1 : (((List.range cs.length).map (s1.heap.objs.size + ·)).map Value.ref).length = cs.length := by rw [List.length_map, List.length_map, List.length_range]
      refine wpAny_bind (wpAny_newTuple (wpAny_bind (wpAny_newTuple (wpAny_bind (wpAny_newObj_type (wpAny_pure ?_))) ?_)) ?_)
      · have z1 : ∀ (h : Heap) (o : Obj), (h.push o).objs.size = h.objs.size + 1 := fun h o => Array.size_push _
        have em : (((List.range cs.length).map (s1.heap.objs.size + ·)).map Value.ref).map (fun _ => Value.none) = List.replicate cs.length Value.none := by
          rw [List.map_const', l1]
        rw [em]
        show R _ { heap := _, gens := s'.gens, drawn := s'.drawn, toks := s'.toks, os := s'.os }
        rw [g1, g2, g3, g4]
        simp only [z1, hs]
        refine hR _ ?_ ?_ ?_ (fun k c ec => ?_) fun c o e => ?_
        · refine Heap.get?_push_at (by rw [z1, z1, hs]) rfl
        · exact Heap.get?_push_of_some _ (Heap.get?_push_of_some _ (Heap.get?_push_at hs.symm rfl))
        · exact Heap.get?_push_of_some _ (Heap.get?_push_at (by rw [z1, hs]) rfl)
        · exact Heap.get?_push_of_some _ (Heap.get?_push_of_some _ (Heap.get?_push_of_some _ (ho k c (List.getElem?_eq_some_iff.mp ec).1 ec)))
        · exact Heap.get?_push_of_some _ (Heap.get?_push_of_some _ (Heap.get?_push_of_some _ (hk c o e)))
      · rw [List.length_map, l1]
        exact Nat.le_trans hl (by decide)
      · rw [l1]
        exact Nat.le_trans hl (by decide)
  · exact ⟨rfl, fun h' a1 a2 a3 a4 a5 => ⟨⟨_, a1, rfl⟩, hQ h' a1 a2 a3 a4 a5⟩⟩
end
/-! ### the walk -/
/-- tuples of the items at the addresses cs -/
def ItzN (K : PySem.W.Frag) (cs : List (Bool × Addr)) : It :=
  ⟨fun i H => ∀ c ∈ cs, ∃ xs x, SqG c.1 K H c.2 xs ∧ xs[i]? = some x,
    fun i H v H' => ∃ T xs, v = .ref T ∧ H T = none ∧ H' = upd H T (.tup xs) ∧ xs.length = cs.length ∧ ∀ (k : Nat) (c : Bool × Addr) (x : V), cs[k]? = some c → xs[k]? = some x → ∀ ys, SqG c.1 K H c.2 ys → ys[i]? = some x,
    fun i H => ∃ c0 cr xs, cs = c0 :: cr ∧ SqG c0.1 K H c0.2 xs ∧ xs.length ≤ i⟩
structure ZApart (z TI TO : Addr) (js : List Addr) (cs : List (Bool × Addr)) : Prop where
  len : js.length = cs.length
  ne : js ≠ []
  sz : js.length ≤ 1000
  nd : ∀ (k l : Nat) (j : Addr), js[k]? = some j → js[l]? = some j → k = l
  TIz : TI ≠ z
  TITO : TI ≠ TO
  TIj : TI ∉ js
  TOz : TO ≠ z
  zj : z ∉ js
  TOj : TO ∉ js
  cz : ∀ c ∈ cs, c.2 ≠ z ∧ c.2 ≠ TI ∧ c.2 ≠ TO ∧ c.2 ∉ js
def ZSt (cs : List (Bool × Addr)) (js : List Addr) (i : Nat) (R : Nat → Value → Prop) (k : Nat) (h : Heap) : Prop := ∃ c j its, cs[k]? = some c ∧ js[k]? = some j ∧ ItG c.1 h j c.2 i ∧ HpG c.1 h c.2 its ∧ ∃ v, its[i]? = some v ∧ R k v
def ZSt' (cs : List (Bool × Addr)) (js : List Addr) (i : Nat) (k : Nat) (h : Heap) : Prop := ∃ c j, cs[k]? = some c ∧ js[k]? = some j ∧ ItG c.1 h j c.2 i
def zfp (cs : List (Bool × Addr)) (js : List Addr) (k : Nat) : List Addr := match cs[k]?, js[k]? with
  | some c, some j => [j, c.2]
  | _, _ => []
theorem zfp_mem {cs : List (Bool × Addr)} {js : List Addr} {k : Nat} {b : Addr} (h : b ∈ zfp cs js k) : ∃ c j, cs[k]? = some c ∧ js[k]? = some j ∧ (b = j ∨ b = c.2) := by
  unfold zfp at h
  split at h
  · rename_i c j e1 e2
    exact ⟨c, j, e1, e2, by simpa using h⟩
  · cases h
theorem HpG.carry {b : Bool} {h h' : Heap} {a : Addr} {its : Array Value} (x : HpG b h a its) (k : ∀ o, h.get? a = some o → h'.get? a = some o) : HpG b h' a its := by
  cases b with
  | true => exact Heap.IsTuple.at x k
  | false => exact Heap.IsList.at x k
theorem zn_of {prog : Program} {w : World} {A : Around} (hh : A.handled = none) {z TI TO : Addr} {js : List Addr} {cs : List (Bool × Addr)} (D : ZApart z TI TO js cs) (i : Nat) (R : Nat → Value → Prop) :
    ZN prog w A z TI TO js (zfp cs js) R (ZSt cs js i R) (ZSt' cs js (i + 1)) where
  item := fun k j hj s Q E ⟨c, j', its, e1, e2, e3, e4, v, e5, e6⟩ hq => by
    cases hj.symm.trans e2
    have hcj : c.2 ≠ j := fun q => (D.cz c (List.mem_of_getElem? e1)).2.2.2 (q ▸ List.mem_of_getElem? hj)
    have hi : i < its.size := (Array.getElem?_eq_some_iff.mp e5).1
    refine (drawG c.1 hh j c.2 hcj its).item i s Q E hi ⟨e3, e4⟩ fun x h' tk px st sb => hq x h' tk ?_ ⟨c, j, e1, hj, st.1⟩ sb
    have : v = x := Option.some.inj (e5.symm.trans px)
    exact this ▸ e6
  keep := fun k h h' ⟨c, j, its, e1, e2, e3, e4, e5⟩ hk => ⟨c, j, its, e1, e2, e3.carry fun o q => hk j (by unfold zfp; rw [e1, e2]; simp) o q, e4.carry fun o q => hk c.2 (by unfold zfp; rw [e1, e2]; simp) o q, e5⟩
  keep' := fun k h h' ⟨c, j, e1, e2, e3⟩ hk => ⟨c, j, e1, e2, e3.carry fun o q => hk j (by unfold zfp; rw [e1, e2]; simp) o q⟩
  zf := fun k hb => by
    obtain ⟨c, j, e1, e2, e3⟩ := zfp_mem hb
    rcases e3 with q | q
    · exact D.zj (q ▸ List.mem_of_getElem? e2)
    · exact (D.cz c (List.mem_of_getElem? e1)).1 q.symm
  Tf := fun k hb => by
    obtain ⟨c, j, e1, e2, e3⟩ := zfp_mem hb
    rcases e3 with q | q
    · exact D.TOj (q ▸ List.mem_of_getElem? e2)
    · exact (D.cz c (List.mem_of_getElem? e1)).2.2.1 q.symm
  jf := fun k l j hj hn hb => by
    obtain ⟨c, j', e1, e2, e3⟩ := zfp_mem hb
    rcases e3 with q | q
    · exact hn (D.nd l k j hj (q ▸ e2))
    · exact (D.cz c (List.mem_of_getElem? e1)).2.2.2 (q ▸ List.mem_of_getElem? hj)
  TIz := D.TIz
  TITO := D.TITO
  TIj := D.TIj
  TOz := D.TOz
  zj := D.zj
  TOj := D.TOj
def ztn (z TI TO : Addr) (js : List Addr) (cs : List (Bool × Addr)) (i : Nat) (h : Heap) : Prop := ∃ f0 f os, (f0 = .none ∨ ∃ T : Addr, f0 = rawInt T) ∧ h.get? z = some (zObj f0 f TI TO) ∧ h.get? TI = some (tObj (js.map .ref)) ∧ h.get? TO = some (tObj os) ∧ os.length = js.length ∧ ∀ k, k < js.length → ZSt' cs js i k h
theorem vals_pick {R : Nat → V → Value → Prop} : ∀ {vs : List Value} (j : Nat), (∀ k v, vs[k]? = some v → ∃ x, RelV x v ∧ R (j + k) x v) → ∃ xs : List V, Vals xs vs ∧ ∀ k x, xs[k]? = some x → ∃ v, vs[k]? = some v ∧ R (j + k) x v
  | [], _, _ => ⟨[], .nil, fun k x e => by simp at e⟩
  | v :: vs, j, h => by
    obtain ⟨x, r, e⟩ := h 0 v rfl
    obtain ⟨xs, rs, hs⟩ := vals_pick (vs := vs) (j + 1) fun k u hu => by
      have := h (k + 1) u hu
      rwa [show j + (k + 1) = j + 1 + k by omega] at this
    refine ⟨x :: xs, .cons r rs, fun k y hy => ?_⟩
    cases k with
    | zero =>
      cases hy
      exact ⟨v, rfl, e⟩
    | succ k =>
      obtain ⟨u, hu, ru⟩ := hs k y hy
      exact ⟨u, hu, by rwa [show j + (k + 1) = j + 1 + k by omega]⟩
end Pf

set_option maxHeartbeats 1000000
namespace Pf
open PySem PySem.Spec PyProof.Rows L2
theorem turn_zipN {P : Program} {w : World} {K : PySem.W.Frag} {tg : Expr} (htg : ∀ it v, letOwnedTupleGo tg it v = pure ()) {z TI TO : Addr} {js : List Addr} {cs : List (Bool × Addr)} (D : ZApart z TI TO js cs) :
    Turn P w K tg (ItzN K cs) (z :: TI :: TO :: js) z (ztn z TI TO js cs) := by
  have mem : ∀ e, e ∈ z :: TI :: TO :: js → e = z ∨ e = TI ∨ e = TO ∨ e ∈ js := fun e he => by simpa using he
  have iter : ∀ {i : Nat} {h : Heap}, (∀ k, k < js.length → ZSt' cs js i k h) → ∀ e ∈ js, ∃ (c : Bool × Addr) (k : Nat), cs[k]? = some c ∧ js[k]? = some e ∧ ItG c.1 h e c.2 i := fun {i h} st e he => by
    obtain ⟨k, hk, ek⟩ := List.getElem_of_mem he
    obtain ⟨c, j, e1, e2, e3⟩ := st k hk
    have e4 : js[k]? = some e := by rw [List.getElem?_eq_getElem hk, ek]
    cases e4.symm.trans e2
    exact ⟨c, k, e1, e4, e3⟩
  refine ⟨by simp, fun i h st e he => ?_, fun i h h' st k => ?_, ?_, ?_, fun A i s Q E st h => ?_⟩
  · obtain ⟨f0, f, os, q0, q1, q2, q3, q4, q5⟩ := st
    rcases mem e he with q | q | q | q
    · exact ⟨_, q ▸ q1, fun v q => by cases q⟩
    · exact ⟨_, q ▸ q2, fun v q => by cases q⟩
    · exact ⟨_, q ▸ q3, fun v q => by cases q⟩
    · obtain ⟨c, k, _, _, e3⟩ := iter q5 e q
      exact e3.obj
  · obtain ⟨f0, f, os, q0, q1, q2, q3, q4, q5⟩ := st
    refine ⟨f0, f, os, q0, k z (by simp) _ q1, k TI (by simp) _ q2, k TO (by simp) _ q3, q4, fun m hm => ?_⟩
    obtain ⟨c, j, e1, e2, e3⟩ := q5 m hm
    exact ⟨c, j, e1, e2, e3.carry fun o q => k j (by simp [List.mem_of_getElem? e2]) o q⟩
  · intro X hP hw hK hc i pins s σ H E I hf st hg
    subst hP hw hK
    obtain ⟨f0, f, os, q0, q1, q2, q3, q4, q5⟩ := st
    have hh : X.A.in1.handled = none := I.ok.hd hc
    have Z := zn_of (prog := X.prog) (w := X.w) hh D i fun k v => ∃ c xs x, cs[k]? = some c ∧ SqG c.1 X.K H c.2 xs ∧ xs[i]? = some x ∧ RelV x v
    refine nextN_item Z q1 q0 q2 q3 q4 (fun k hk => ?_) D.ne D.sz fun vals os' h' tk f0' f' a1 a2 a3 a4 a5 a6 a7 a8 a9 a10 => ⟨_, rfl, ?_⟩
    · obtain ⟨c, j, e1, e2, e3⟩ := q5 k hk
      obtain ⟨xs, x, mx, gx⟩ := hg c (List.mem_of_getElem? e1)
      obtain ⟨us, rx, px, _⟩ := inv_G I mx
      obtain ⟨u, hu, ru⟩ := rx.get gx
      exact ⟨c, j, us.toArray, e1, e2, e3, px, u, by rw [show us.toArray[i]? = us[i]? by simp]; exact hu, c, xs, x, e1, mx, gx, ru⟩
    · rw [htg]
      refine wpAny_pure ?_
      obtain ⟨xs, rs, hx⟩ := vals_pick (R := fun k x v => ∃ c zs, cs[k]? = some c ∧ SqG c.1 X.K H c.2 zs ∧ zs[i]? = some x) (vs := vals) 0 fun k v hv => by
        obtain ⟨c, zs, x, e1, e2, e3, e4⟩ := a4 k v hv
        exact ⟨x, e4, c, zs, by rw [Nat.zero_add]; exact e1, e2, e3⟩
      have lx : xs.length = cs.length := rs.length.trans (a2.trans D.len)
      have ok : ObjOk X.prog X.w (upd H s.heap.objs.size (.tup xs)) h' s.heap.objs.size (.tup xs) := ⟨by rw [lx, ← D.len]; exact Nat.le_trans D.sz (by decide), vals, rs, ⟨_, a8, rfl, _, rfl⟩⟩
      have I1 : Inv X pins σ (upd H s.heap.objs.size (.tup xs)) { s with heap := h', toks := tk } := by
        refine I.turnedNew (t' := tk) (ch := z :: TI :: TO :: js) (fun e o hb q => a10 e o ?_ ?_ ?_ q) hf (Nat.le_refl _) ok <;> exact fun q' => hb (by simp [q'])
      refine ⟨.ref s.heap.objs.size, _, I1, rfl, ⟨_, xs, rfl, I.hok.fresh (Nat.le_refl _), rfl, lx, fun k c x ec ex ys hy => ?_⟩, ⟨f0', f', os', a1, a6, ?_, a7, a3, a5⟩, fun e he => ?_⟩
      · obtain ⟨v, hv, c', zs, e1, e2, e3⟩ := hx k x ex
        rw [Nat.zero_add] at e1
        cases ec.symm.trans e1
        rw [inv_G_inj I hy e2]
        exact e3
      · exact a10 TI _ D.TIz D.TITO D.TIj q2
      · have el : e < s.heap.objs.size := by
          rcases mem e he with q | q | q | q
          · exact q ▸ Heap.lt_size q1
          · exact q ▸ Heap.lt_size q2
          · exact q ▸ Heap.lt_size q3
          · obtain ⟨c, k, _, _, e3⟩ := iter q5 e q
            obtain ⟨o, ho, _⟩ := e3.obj
            exact Heap.lt_size ho
        rw [upd_ne (Nat.ne_of_lt el)]
        exact (hf e he).1
  · intro X hP hw hK hc i pins s σ H E I hf st hg
    subst hP hw hK
    obtain ⟨f0, f, os, q0, q1, q2, q3, q4, q5⟩ := st
    obtain ⟨c0, cr, xs, ec, mx, fin⟩ := hg
    obtain ⟨us, rx, px, _⟩ := inv_G I mx
    have hh : X.A.in1.handled = none := I.ok.hd hc
    obtain ⟨j0, jr, ej⟩ : ∃ j0 jr, js = j0 :: jr := match js, D.ne with | j0 :: jr, _ => ⟨j0, jr, rfl⟩
    obtain ⟨c, j, e1, e2, e3⟩ := q5 0 (by rw [ej]; exact Nat.succ_pos _)
    rw [ec] at e1
    cases e1
    rw [ej] at e2
    cases e2
    have hcj : c0.2 ≠ j0 := fun q => (D.cz c0 (by rw [ec]; simp)).2.2.2 (q ▸ by rw [ej]; simp)
    have hzj : z ≠ j0 := fun q => D.zj (q ▸ by rw [ej]; simp)
    obtain ⟨m, Pm, St, Dr, st0, _, lm⟩ := drawAt c0.1 (prog := X.prog) (w := X.w) hh j0 c0.2 hcj us.toArray i e3 px
    have hm : i = m := lm (by rw [List.size_toArray, ← rx.length]; exact fin)
    subst hm
    rw [ej] at q2
    refine nextN_stop q1 q0 q2 q3 hzj (S0 := St i) st0 (fun h sb => Dr.frame i _ _ st0 fun b hb o e => (sb.2 b fun q => ?_).trans e) (fun s Q E hs hE => Dr.done s Q E hs hE) fun h' hk => ⟨rfl, ?_⟩
    · simp only [List.mem_cons, List.not_mem_nil, or_false] at hb
      rcases hb with rfl | rfl
      · exact hzj q.symm
      · exact (D.cz c0 (by rw [ec]; simp)).1 q
    · refine I.turnedL (t' := s.toks) (ch := z :: TI :: TO :: js) (fun e o hb q => hk e o ?_ ?_ q) hf
      · exact fun q' => hb (by simp [q'])
      · exact fun q' => hb (by rw [ej]; simp [q'])
  · obtain ⟨f0, f, os, q0, q1, _⟩ := st
    exact iterN q1 h
end Pf

set_option maxHeartbeats 1000000
namespace Pf
open PySem PySem.Spec PyProof.Rows L2
theorem callWith_typeS {prog : Program} {w : World} {A : Around} {E : Value → Shared → Prop} {s : Shared} {pos : Pos} {T : String} {m : Sem Value} {Q : Value → Shared → Prop}
    (h : wpAny (model prog w) A m (fun v s1 => ∃ (a : Addr) (items : List Value), v = .ref a ∧ s1.heap.IsTuple a items.toArray ∧ items.length ≤ 1000 ∧ ∀ h' : Heap, (∀ b o, s1.heap.get? b = some o → h'.get? b = some o) → wpAny (model prog w) A (call (.type T) items) Q E { heap := h', gens := s1.gens, drawn := s1.drawn, toks := s1.toks, os := s1.os }) E s) :
    wpAny (model prog w) A (callWith pos (.type T) [] (backTo pos [(true, m)]) []) Q E s := by
  unfold callWith
  refine wpAny_bind (wpAny_holding ?_)
  show wpAny _ _ (evalArgs (.type T) true [(true, m >>= fun v => standAt pos >>= fun _ => pure v)] []) _ _ _
  unfold evalArgs
  refine wpAny_bind (wpAny_bind (thn h fun v s1 hv => ?_))
  obtain ⟨a, items, rfl, ⟨o, ho, oc, n, od⟩, hl, hk⟩ := hv
  refine wpAny_bind (wpAny_standAt (wpAny_pure (wpAny_bind (wpAny_pure (wpAny_holding ?_)))))
  show wpAny _ _ (evalAll [] >>= _) _ _ _
  refine wpAny_bind ?_
  show wpAny _ _ (pure []) _ _ _
  refine wpAny_pure ?_
  have ty : s1.TypeIs (.ref a) "tuple" := ⟨o, ho, oc⟩
  show wpAny _ _ ((notIterableAtAll (Value.ref a) >>= _) >>= _) _ _ _
  refine wpAny_bind (wpAny_bind ?_)
  unfold notIterableAtAll
  refine wpAny_bind (wpAny_specialOf ty F.slot_tuple_iter.1 (wpAny_pure ?_))
  show wpAny _ _ (holding [] (collect (Value.ref a))) _ _ _
  refine wpAny_holding (wpAny_collect_seq a (.inr rfl) ho oc od (fun h' hk' => wpAny_pure ?_) (by rw [List.size_toArray]; exact Nat.le_trans hl (by decide)))
  refine wpAny_bind (wpAny_standAt ?_)
  show wpAny _ _ (operate _ (call (Value.type T) items []) >>= fun r => holding [r] point >>= fun _ => pure r) _ _ _
  refine wpAny_bind (wpAny_operate' (thn (hk h' hk') fun r s2 hr => ?_))
  exact wpAny_bind (wpAny_holding (wpAny_point (wpAny_pure hr)))
/-- zip( *tables), walked with a name -/
def iZipS (K : PySem.W.Frag) (te : TE) : TI := fun σ H R => te σ H fun v H1 => ∃ t cs, v = .ref t ∧ SqT K H1 t (cs.map fun c : Bool × Addr => V.ref c.2) ∧ cs ≠ [] ∧ cs.length ≤ 1000 ∧ (∀ us : List Value, us.length = cs.length → checkBuiltinCall "zip.__new__" { pos := Value.type "zip" :: us } = pure ()) ∧ (∀ c ∈ cs, ∃ xs, SqG c.1 K H1 c.2 xs) ∧ R (ItzN K cs) H1
theorem refs_of : ∀ {cs : List (Bool × Addr)} {us : List Value}, Vals (cs.map fun c => V.ref c.2) us → us = cs.map fun c => Value.ref c.2
  | [], us, h => by
    cases h
    rfl
  | c :: cs, us, h => by
    cases h with
    | cons r rr =>
      cases r
      rw [refs_of rr]
      rfl
theorem pi_zipS {X : Cx} {e tg : Expr} {te : TE} {p sp pos : Pos} (htg : ∀ it v, letOwnedTupleGo tg it v = pure ()) (hg : Gl X "zip") (hm : X.mg "zip" = none) (he : PE X e te) (hs : starEach [.Starred e sp] X.env = [(true, eval e X.env)] := by rfl) :
    PI X tg (.Call (.Name "zip" p) [.Starred e sp] [] pos) (iZipS X.K te) := by
  constructor
  intro pins s σ H R I h
  refine Call_ (ld_blt I hg hm PyProof.Rows.boot_zip ?_)
  rw [hs]
  refine callWith_typeS (thn (he.run pins s σ H _ I h) fun u s1 ⟨v, H1, I1, r1, q1⟩ => ?_)
  obtain ⟨t, cs, ev, mt, hne, hl, hck, hc, q⟩ := q1
  subst ev
  cases r1
  obtain ⟨us, rs, pt, lt⟩ := I1.tuple mt
  have eu := refs_of rs
  subst eu
  refine ⟨t, _, rfl, pt, by rw [List.length_map]; exact hl, fun h' hk => ?_⟩
  have I2 : Inv X pins σ H1 { s1 with heap := h' } := I1.kept (t' := s1.toks) hk
  have lo : ∀ c ∈ cs, c.2 < h'.objs.size := fun c hcm => by
    obtain ⟨xs, mx⟩ := hc c hcm
    exact (inv_G I2 mx).choose_spec.2.2
  refine zipN_new (s := { s1 with heap := h' }) (fun c hcm => ?_) hl (hck _ (by rw [List.length_map])) fun h2 z1 z2 z3 z4 hk2 => ?_
  · obtain ⟨xs, mx⟩ := hc c hcm
    obtain ⟨its, _, px, _⟩ := inv_G I2 mx
    exact ⟨_, px⟩
  · have I3 : Inv X pins σ H1 { s1 with heap := h2 } := I2.kept (t' := s1.toks) hk2
    have jm : ∀ j, j ∈ (List.range cs.length).map (h'.objs.size + ·) → h'.objs.size ≤ j ∧ j < h'.objs.size + cs.length := fun j hj => by
      obtain ⟨k, hk, rfl⟩ := List.mem_map.mp hj
      have := List.mem_range.mp hk
      omega
    have jg : ∀ k, k < cs.length → ((List.range cs.length).map (h'.objs.size + ·))[k]? = some (h'.objs.size + k) := fun k hk => by
      rw [List.getElem?_map, List.getElem?_range hk]
      rfl
    have jl : ((List.range cs.length).map (h'.objs.size + ·)).length = cs.length := by rw [List.length_map, List.length_range]
    have D : ZApart (h'.objs.size + cs.length + 2) (h'.objs.size + cs.length) (h'.objs.size + cs.length + 1) ((List.range cs.length).map (h'.objs.size + ·)) cs := {
      len := jl
      ne := fun z => hne (List.length_eq_zero_iff.mp (by rw [← jl, z]; rfl))
      sz := by rw [jl]; exact hl
      nd := fun k l j h1 h2 => by
        have a1 := (List.getElem?_eq_some_iff.mp h1).1
        have a2 := (List.getElem?_eq_some_iff.mp h2).1
        rw [jl] at a1 a2
        rw [jg k a1] at h1
        rw [jg l a2] at h2
        have b1 := Option.some.inj h1
        have b2 := Option.some.inj h2
        omega
      TIz := Nat.ne_of_lt (show h'.objs.size + cs.length < h'.objs.size + cs.length + 2 by omega)
      TITO := Nat.ne_of_lt (show h'.objs.size + cs.length < h'.objs.size + cs.length + 1 by omega)
      TIj := fun hj => by
        have := jm _ hj
        omega
      TOz := Nat.ne_of_lt (show h'.objs.size + cs.length + 1 < h'.objs.size + cs.length + 2 by omega)
      zj := fun hj => by
        have := jm _ hj
        omega
      TOj := fun hj => by
        have := jm _ hj
        omega
      cz := fun c hcm => by
        have := lo c hcm
        refine ⟨Nat.ne_of_lt (Nat.lt_of_lt_of_le this (show h'.objs.size ≤ h'.objs.size + cs.length + 2 by omega)), Nat.ne_of_lt (Nat.lt_of_lt_of_le this (show h'.objs.size ≤ h'.objs.size + cs.length by omega)), Nat.ne_of_lt (Nat.lt_of_lt_of_le this (show h'.objs.size ≤ h'.objs.size + cs.length + 1 by omega)), fun hj => ?_⟩
        exact absurd (jm _ hj).1 (Nat.not_le_of_lt this) }
    have st : ztn (h'.objs.size + cs.length + 2) (h'.objs.size + cs.length) (h'.objs.size + cs.length + 1) ((List.range cs.length).map (h'.objs.size + ·)) cs 0 h2 := by
      refine ⟨.none, false, List.replicate cs.length .none, .inl rfl, z1, z2, z3, by rw [List.length_replicate, jl], fun k hk => ?_⟩
      rw [jl] at hk
      exact ⟨cs[k], h'.objs.size + k, List.getElem?_eq_getElem hk, jg k hk, .new (z4 k cs[k] (List.getElem?_eq_getElem hk))⟩
    refine iterN z1 ⟨h'.objs.size + cs.length + 2, _, _, _, H1, rfl, I3, turn_zipN htg D, st, fun e he => ?_, q⟩
    have le : h'.objs.size ≤ e := by
      simp only [List.mem_cons] at he
      rcases he with q | q | q | q
      · exact q ▸ (show h'.objs.size ≤ h'.objs.size + cs.length + 2 by omega)
      · exact q ▸ (show h'.objs.size ≤ h'.objs.size + cs.length by omega)
      · exact q ▸ (show h'.objs.size ≤ h'.objs.size + cs.length + 1 by omega)
      · exact (jm e q).1
    exact I2.fpOk le (I2.hok.fresh le)
end Pf

set_option maxHeartbeats 8000000
namespace Pf
open PySem PySem.Spec PyProof.Rows L2
/-! ### zip( *tables) as a reading -/
def nOk (n : Nat) : Bool := [1, 2, 3, 4, 9].contains n
theorem zck9 {vs : List Value} (h : vs.length = 9) : checkBuiltinCall "zip.__new__" { pos := Value.type "zip" :: vs } = pure () := by
  match vs, h with
  | [_, _, _, _, _, _, _, _, _], _ => with_unfolding_all rfl
theorem zck4 {vs : List Value} (h : vs.length = 4) : checkBuiltinCall "zip.__new__" { pos := Value.type "zip" :: vs } = pure () := by
  match vs, h with
  | [_, _, _, _], _ => with_unfolding_all rfl
theorem zck3 {vs : List Value} (h : vs.length = 3) : checkBuiltinCall "zip.__new__" { pos := Value.type "zip" :: vs } = pure () := by
  match vs, h with
  | [_, _, _], _ => with_unfolding_all rfl
theorem zck1 {vs : List Value} (h : vs.length = 1) : checkBuiltinCall "zip.__new__" { pos := Value.type "zip" :: vs } = pure () := by
  match vs, h with
  | [_], _ => with_unfolding_all rfl
theorem zckN {n : Nat} (hn : nOk n = true) {vs : List Value} (h : vs.length = n) : checkBuiltinCall "zip.__new__" { pos := Value.type "zip" :: vs } = pure () := by
  have z : n ∈ [1, 2, 3, 4, 9] := List.contains_iff_mem.mp hn
  simp only [List.mem_cons, List.not_mem_nil, or_false] at z
  rcases z with rfl | rfl | rfl | rfl | rfl
  · exact zck1 h
  · exact zck2 h
  · exact zck3 h
  · exact zck4 h
  · exact zck9 h
theorem nOk_pos {n : Nat} (hn : nOk n = true) : 0 < n ∧ n ≤ 9 := by
  have z : n ∈ [1, 2, 3, 4, 9] := List.contains_iff_mem.mp hn
  simp only [List.mem_cons, List.not_mem_nil, or_false] at z
  omega
def ziN (ds : List PyData) : Option (List PyData) := match ds.mapM sqKind with
  | some ((b, xs) :: r) => if ((r.all fun p => decide (xs.length ≤ p.2.length)) && nOk (r.length + 1)) = true then some ((List.range xs.length).map fun i => .tuple (((b, xs) :: r).map fun p => (p.2[i]?).getD .none)) else none
  | _ => none
theorem dqs_sq {K : PySem.W.Frag} {H : Hp} : ∀ {vs : List V} {ds : List PyData} {ks : List (Bool × List PyData)}, Dqs K H vs ds → ds.mapM sqKind = some ks → ∃ cs : List (Bool × Addr), vs = cs.map (fun c => V.ref c.2) ∧ cs.length = ks.length ∧ ∀ (k : Nat) (c : Bool × Addr) (p : Bool × List PyData), cs[k]? = some c → ks[k]? = some p → c.1 = p.1 ∧ ∃ xs, SqG c.1 K H c.2 xs ∧ Dqs K H xs p.2
  | _, _, _, .nil, e => by
    cases e
    exact ⟨[], rfl, rfl, fun k c p e => by simp at e⟩
  | _, _, _, .cons (v := v) (vs := vs) (d := d) (ds := ds) h r, e => by
    rw [List.mapM_cons] at e
    cases e1 : sqKind d with
    | none =>
      rw [e1] at e
      cases e
    | some p =>
      cases e2 : ds.mapM sqKind with
      | none =>
        rw [e1, e2] at e
        cases e
      | some ps =>
        rw [e1, e2] at e
        cases e
        obtain ⟨b, xs⟩ := p
        obtain ⟨a, us, rfl, m, rq⟩ := Dq.sq h e1
        obtain ⟨cs, rfl, hl, hc⟩ := dqs_sq r e2
        refine ⟨(b, a) :: cs, rfl, by rw [List.length_cons, List.length_cons, hl], fun k c p e3 e4 => ?_⟩
        cases k with
        | zero =>
          cases e3
          cases e4
          exact ⟨rfl, us, m, rq⟩
        | succ k => exact hc k c p e3 e4
def zipS (Fa : Rho → M Sv) (ρ : Rho) : M (List PyData) := (Fa ρ).bind fun s => match s with
  | .dat (.tuple ds) => orFail (ziN ds)
  | _ => M.fail
theorem tup_new {K : PySem.W.Frag} {W1 : Wd} {H : Hp} {μ : Mu} {T : Addr} {xs : List V} {ds : List PyData} (R : Rel K W1 H μ) (nT : H T = none) (h : Dqs K W1.S xs ds) :
    ∃ W2, Grow W1 H μ W2 (upd H T (.tup xs)) μ ∧ Rel K W2 (upd H T (.tup xs)) μ ∧ Dq K W2.S (.ref T) (.tuple ds) := by
  have g : Grow W1 H μ (W1.put T (.tup xs)) (upd H T (.tup xs)) μ := grow_share R nT
  exact ⟨_, g, R.share nT, .tup (SqT.of upd_same) (h.mono g.same)⟩
theorem dqs_of {K : PySem.W.Frag} {H : Hp} : ∀ {xs : List V} {ds : List PyData}, xs.length = ds.length → (∀ (k : Nat) (x : V) (d : PyData), xs[k]? = some x → ds[k]? = some d → Dq K H x d) → Dqs K H xs ds
  | [], [], _, _ => .nil
  | x :: xs, d :: ds, h, hk => .cons (hk 0 x d rfl rfl) (dqs_of (Nat.succ.inj h) fun k x d e1 e2 => hk (k + 1) x d e1 e2)
theorem wk_zipN {K : PySem.W.Frag} {W : Wd} {cs : List (Bool × Addr)} {p0 : Bool × List PyData} {r : List (Bool × List PyData)} (hl : cs.length = (p0 :: r).length) (hc : ∀ (k : Nat) (c : Bool × Addr) (p : Bool × List PyData), cs[k]? = some c → (p0 :: r)[k]? = some p → c.1 = p.1 ∧ ∃ xs, SqG c.1 K W.S c.2 xs ∧ Dqs K W.S xs p.2)
    (hr : ∀ p ∈ r, p0.2.length ≤ p.2.length) : Wk K (ItzN K cs) W ((List.range p0.2.length).map fun i => .tuple ((p0 :: r).map fun p => (p.2[i]?).getD .none)) := by
  have long : ∀ p ∈ p0 :: r, p0.2.length ≤ p.2.length := fun p hp => by
    rcases List.mem_cons.mp hp with rfl | h
    · exact Nat.le_refl _
    · exact hr p h
  have at_ : ∀ {i : Nat} {d : PyData}, ((List.range p0.2.length).map fun i => PyData.tuple ((p0 :: r).map fun p => (p.2[i]?).getD .none))[i]? = some d → i < p0.2.length ∧ d = .tuple ((p0 :: r).map fun p => (p.2[i]?).getD .none) := fun {i d} e => by
    rw [List.getElem?_map] at e
    by_cases h : i < p0.2.length
    · rw [List.getElem?_range h] at e
      exact ⟨h, (Option.some.inj e).symm⟩
    · rw [List.getElem?_eq_none (by rw [List.length_range]; omega)] at e
      cases e
  have pick : ∀ {k : Nat} {c : Bool × Addr}, cs[k]? = some c → ∃ p, (p0 :: r)[k]? = some p := fun {k c} e => by
    have := (List.getElem?_eq_some_iff.mp e).1
    exact ⟨_, List.getElem?_eq_getElem (by rw [← hl]; exact this)⟩
  refine ⟨fun i d W1 H μ g R e c hcm => ?_, fun i d W1 H μ x H' g R e y => ?_, fun i W1 H μ g R e => ?_⟩
  · obtain ⟨hi, rfl⟩ := at_ e
    obtain ⟨k, hk, ek⟩ := List.getElem_of_mem hcm
    have ec : cs[k]? = some c := by rw [List.getElem?_eq_getElem hk, ek]
    obtain ⟨p, ep⟩ := pick ec
    obtain ⟨_, xs, m, q⟩ := hc k c p ec ep
    have hlp := long p (List.mem_of_getElem? ep)
    have hx : i < xs.length := by rw [q.len]; omega
    exact ⟨xs, xs[i], (m.mono g).mono R.sub, List.getElem?_eq_getElem hx⟩
  · obtain ⟨hi, rfl⟩ := at_ e
    obtain ⟨T, xs, rfl, nT, rfl, hx, hy⟩ := y
    refine tup_new R nT (dqs_of (by rw [hx, List.length_map, hl]) fun k x d e1 e2 => ?_)
    have hk : k < cs.length := by rw [← hx]; exact (List.getElem?_eq_some_iff.mp e1).1
    have ec : cs[k]? = some cs[k] := List.getElem?_eq_getElem hk
    obtain ⟨p, ep⟩ := pick ec
    obtain ⟨_, us, m, q⟩ := hc k _ p ec ep
    have hlp := long p (List.mem_of_getElem? ep)
    have z := hy k _ x ec e1 us ((m.mono g).mono R.sub)
    rw [List.getElem?_map, ep] at e2
    have e3 : p.2[i]? = some (p.2[i]'(by omega)) := List.getElem?_eq_getElem (by omega)
    obtain ⟨v, a1, q1⟩ := q.getD e3
    cases z.symm.trans a1
    have e4 : d = p.2[i]'(by omega) := by
      have := Option.some.inj e2
      rw [← this]
      show (p.2[i]?).getD .none = _
      rw [e3]
      rfl
    exact e4 ▸ Dq.mono g q1
  · rw [List.length_map, List.length_range] at e
    obtain ⟨c0, cr, ec⟩ : ∃ c0 cr, cs = c0 :: cr := by
      match cs, hl with
      | c0 :: cr, _ => exact ⟨c0, cr, rfl⟩
    obtain ⟨_, xs, m, q⟩ := hc 0 c0 p0 (by rw [ec]; rfl) rfl
    exact ⟨c0, cr, xs, ec, (m.mono g).mono R.sub, by rw [q.len]; exact e⟩
section
variable {X : Cx} {E : XK} {a : Expr} {Fa : Rho → M Sv} {pos p sp : Pos}
theorem i_zipS {tg : Expr} (htg : ∀ it v, letOwnedTupleGo tg it v = pure ()) (hg : Gl X "zip") (hm : X.mg "zip" = none) (ha : PX X E a Fa) (hs : starEach [.Starred a sp] X.env = [(true, eval a X.env)] := by rfl) :
    PIX X E tg (.Call (.Name "zip" p) [.Starred a sp] [] pos) (zipS Fa) := pi_weak (pi_zipS htg hg hm ha hs) fun σ H R ⟨W, ρ, μ, r, h, e, q⟩ => by
  refine tX_bind h e q fun v s W1 H1 μ1 g1 h1 rs e1 q1 => ?_
  split at e1
  · rename_i ds
    cases ez : ziN ds with
    | none =>
      rw [ez] at e1
      cases e1
    | some es =>
    rw [ez] at e1
    cases e1
    unfold ziN at ez
    split at ez
    · rename_i b xs r hks
      split at ez
      · rename_i hcond
        cases ez
        obtain ⟨h2, h3⟩ := Bool.and_eq_true_iff.mp hcond
        cases rs with
        | tup m rq =>
        obtain ⟨cs, rfl, hl, hc⟩ := dqs_sq rq hks
        have n2 : nOk cs.length = true := by rw [hl, List.length_cons]; exact h3
        have n3 := nOk_pos n2
        refine ⟨_, cs, rfl, seqT_mono h1.rel.sub m, fun z => (by rw [z] at n3; exact absurd n3.1 (by decide)), (by omega), fun us hu => zckN n2 hu, fun c hcm => ?_, q1 _ _ (Grow.refl _ _ _) h1.rel _ (wk_zipN hl hc fun p hp => of_decide_eq_true (List.all_eq_true.mp h2 p hp))⟩
        obtain ⟨k, hk, ek⟩ := List.getElem_of_mem hcm
        obtain ⟨_, us, m2, _⟩ := hc k c (((b, xs) :: r)[k]'(by rw [← hl]; exact hk)) (by rw [List.getElem?_eq_getElem hk, ek]) (List.getElem?_eq_getElem _)
        exact ⟨us, m2.mono h1.rel.sub⟩
      · cases ez
    · cases ez
  · cases e1
end
/-! ### a def with a star, its arguments being data -/
def spS (K : PySem.W.Frag) (Fm : List Sv → M Sv) : Sp := fun vs H Q E => vs.length ≤ 1000 ∧ ∃ W μ ds r, Rel K W H μ ∧ Dqs K W.S vs ds ∧ Fm [.dat (.tuple ds)] μ = some r ∧ KoV K E W H μ r Q
section
variable {P : Program} {w : World} {K : PySem.W.Frag} {mg : Str → Option Value} {base : Heap} {k : Nat} {f : Addr} {fd : FuncData} {x qual pv : Str} {st : Stmt} {N : List Str}
theorem star_of {Fm : List Sv → M Sv} (F : Fun K x qual st f fd) (S : FnScope N [pv] (defScope st)) (hb : ∀ (kV doc pm : Value) (an : Option Addr) (cdv ct : Value) (us : List Value), bindArgs (PySem.W.fnOf x qual (defArgs st) (defBody st) (defScope st) .none kV doc pm an cdv ct) { pos := us } = do
      let t ← newTuple us
      pure [(pv, t)])
    (G : Rho → M Out) (body : ∀ (cdv : Value) (A : Around) (below : List Env) (s : Shared) (H : Hp) (E : XK), Room k (bx P w K mg base N qual st f cdv A below s H E).A → PSSX (bx P w K mg base N qual st f cdv A below s H E) E (defBody st) G)
    (same : ∀ (ss : List Sv) (μ : Mu) (r : Res Sv), ss.length = 1 → Wf μ → Fm ss μ = some r → ∃ r', G (ini N.length ss) μ = some r' ∧ Agree μ.length r r') : FnR P w K mg base (L2.CX P w) (k + 1) f (spS K Fm) := by
  obtain ⟨oc, od, kV, doc, pm, an, cdv, ct, osl, rfl, lk, hcd⟩ := F.ex
  have z := StX.fn_star (P := P) (w := w) (mg := mg) (base := base) (k := k) (CX := L2.CX P w) (N := N) (ps := []) (pv := pv) (sp := spM K 1 Fm) lk hcd S StX.cxUp (fun us rest hu => by
    cases List.length_eq_zero_iff.mp hu
    exact hb ..) fun A outer s H vs Q E hr ⟨hl, W, μ, ss, r, R, rs, e, q⟩ => ⟨_, body cdv A outer s H E hr, by
      obtain ⟨r', e', a⟩ := same ss μ r (by rw [← hl, rs.len]) R.wf e
      exact ⟨W, ini N.length ss, μ, r', ⟨R, ini_sl rs⟩, e', agree_ko a q⟩⟩
  intro A outer s H us vs Q E hr e0 rv ⟨hl, W, μ, ds, r, R, rd, e, q⟩
  refine z A outer s H us vs Q E hr e0 rv ⟨[], vs, rfl, rfl, Nat.le_trans hl (by decide), fun p hp => ?_⟩
  obtain ⟨W2, g2, R2, d2⟩ := tup_new R hp rd
  have sr : SvR K W2 μ.length (.ref p) (.dat (.tuple ds)) := d2
  exact ⟨rfl, W2, μ, _, r, R2, .cons sr .nil, e, Ko.later g2 q⟩
end
def callS (Fm : List Sv → M Sv) (Fs : Rho → M (List Sv)) (ρ : Rho) : M Sv := (Fs ρ).bind fun ss => match dats ss with
  | some ds => if ds.length ≤ 1000 then Fm [.dat (.tuple ds)] else M.fail
  | none => M.fail
section
variable {X : Cx} {CX : CXT} {k j : Nat} {f : Addr} {E : XK} {x : Str} {p pos : Pos} {e : Expr} {es : List Expr} {Fm : List Sv → M Sv} {Fs : Rho → M (List Sv)}
theorem x_callS (F : FnR X.prog X.w X.K X.mg X.base CX j f (spS X.K Fm)) (hr : Room k X.A) (hm : X.mg x = some (.ref f)) (hk : PySem.W.keepIn X.K (.ref f) = true) (hx : Passes CX X E) (ha : PAX X E (e :: es) Fs) (hg : Gl X x := by rfl) (hj : j ≤ k := by decide)
    (hdb : (x == ("__debug__" : Str)) = false := by decide) (he : starEach (e :: es) X.env = (false, eval e X.env) :: starEach es X.env := by rfl) (hpl : (backTo pos (starEach es X.env)).any (·.1) = false := by rfl) :
    PX X E (.Call (.Name x p) (e :: es) [] pos) (callS Fm Fs) := by
  refine ⟨fun pins s σ H Q I ⟨W, ρ, μ, r, h, e0, q⟩ => ?_⟩
  refine wpAny_Call_Name_kw (ld_glob I hg hm ?_ hdb)
  refine PySem.W.callWith_K (h₀ := X.base) I.ok.mod.kin hk ?_ he hpl
  have want : tAr X.K E Fs σ H fun vs H1 => spS X.K Fm vs H1 Q E := tAr_bind h e0 q fun vs ss W1 H1 μ1 g1 h1 rs e1 q1 => by
    cases ed : dats ss with
    | none =>
      rw [ed] at e1
      cases e1
    | some ds =>
      rw [ed] at e1
      dsimp only at e1
      split at e1
      · rename_i c
        have rd := dats_rel rs ed
        exact ⟨by rw [rd.len]; exact c, W1, μ1, ds, r, h1.rel, rd, e1, q1⟩
      · cases e1
  refine thn (ha.run pos pins s σ H _ I want) fun us s1 ⟨vs, H1, J, rv, z⟩ => ⟨J.kIn, ?_⟩
  have gr := F X.A X.stack s1 H1 us vs Q E (hr.mono hj) (Inv.env0 J) rv z
  refine wpAny_call (codeAny_mono gr fun res s2 hc => ?_)
  match res, hc with
  | .error ex, hc => exact hx pins σ H1 s1 ex s2 J hc
  | .ok (.ret u), hc => exact Inv.after J hc
end
end Pf

set_option maxHeartbeats 1000000
namespace Pf
open PySem PySem.Spec PyProof.Rows L2
section
variable {X : Cx} {E : XK} {a b : Expr} {pos : Pos}
/-- a, b = .. where a name is a cell: by a tuple -/
theorem s_parT (i j : Nat) {x y : Str} {px py pt : Pos} {kt k2 pt2} {Fs : Rho → M (List Sv)} (hc : X.calm = true) (hN : X.N.Nodup) (ha : PAX X E [a, b] Fs) (hw : swappedStores [.Tuple [.Name x px, .Name y py] kt pt] (.Tuple [a, b] k2 pt2) X.env = pure none)
    (hi : X.N[i]? = some x := by rfl) (hj : X.N[j]? = some y := by rfl) (hx : Loc X.env.scope x := by first | exact Or.inl rfl | exact Or.inr rfl) (hy : Loc X.env.scope y := by first | exact Or.inl rfl | exact Or.inr rfl)
    (hfx : X.fn x = true ∨ X.env.scope.names.lookup x = some .local := by first | exact .inl rfl | exact .inr rfl) (hfy : X.fn y = true ∨ X.env.scope.names.lookup y = some .local := by first | exact .inl rfl | exact .inr rfl)
    (hs : swapsWithSole [.Tuple [.Name x px, .Name y py] kt pt] (.Tuple [a, b] k2 pt2) pos.line X.env = pure false := by rfl)
    (h3 : List.map (fun x => x.snd) (assignEach [.Tuple [.Name x px, .Name y py] kt pt] X.env) = [assign (.Tuple [.Name x px, .Name y py] kt pt) X.env] := by rfl) : PSX X E (.Assign [.Tuple [.Name x px, .Name y py] kt pt] (.Tuple [a, b] k2 pt2) pos) (gPar i j Fs) :=
  ps_weak (ps_asg (pe_tup ha) (pg_tup hc (pgs_cons (pg_name hN hi hx hfx) (pgs_cons (pg_name hN hj hy hfy) pgs_nil)) rfl rfl) hs hw h3) fun D σ H ⟨W, ρ, μ, r, h, e, q⟩ => by
    refine tAr_bind h e q fun vs ss W1 H1 μ1 g1 h1 rs e1 q1 => ?_
    split at e1
    · cases e1
      obtain ⟨v, w, rfl, r1, r2⟩ := rels2 rs
      refine ⟨by show 2 ≤ sizeLine; decide, fun p np => ?_⟩
      have g : Grow W1 H1 μ1 (W1.put p (.tup [v, w])) (upd H1 p (.tup [v, w])) μ1 := grow_share h1.rel np
      have R2 := h1.rel.share (o := .tup [v, w]) np
      exact ⟨p, [v, w], rfl, SqT.of upd_same, rfl, v, [w], rfl, w, [], rfl, rfl, q1 _ _ g R2 _ (((h1.sl.grow g).set i (r1.grow g)).set j (r2.grow g))⟩
    · cases e1
end
end Pf

set_option maxHeartbeats 1000000
namespace Pf
open PySem PySem.Spec PyProof.Rows L2
def oZiN : PyData → Option (List PyData)
  | .tuple ds => ziN ds
  | _ => none
def starT (T : List PyData → S PyData) (ds : List PyData) : S PyData := (S.lift (if ds.length ≤ 1000 then some PUnit.unit else none)).bind fun _ => T [.tuple ds]
section
variable {l l1 : En} {Fa : Rho → M Sv} {ta : S PyData}
theorem w_zipS (h : Jd l Fa ta (pV l1)) : Jd l (zipS Fa) (ta.bind fun a => S.lift (oZiN a)) (pL l1) := fun k rest ρ μ e => by
  refine (h k rest ρ μ e).bind fun k1 μ1 a da ⟨z, e1⟩ => ?_
  subst z
  refine Jl.lift fun ds q => ?_
  cases da with
  | tuple xs =>
    have q : ziN xs = some ds := q
    exact ⟨ds, μ1, by show orFail (ziN xs) μ1 = _; rw [q]; rfl, rfl, e1⟩
  | _ => cases q
theorem e_callS {n : Nat} {Fs : Rho → M (List Sv)} {ts : S (List PyData)} {T : List PyData → S PyData} (h : Jd l Fs ts (pA n l1)) : Jd l (callS (liftF T) Fs) (ts.bind (starT T)) (pV l1) := fun k rest ρ μ e => by
  refine (h k rest ρ μ e).bind fun k1 μ1 as ds ⟨z, hl, e1⟩ => ?_
  subst z
  unfold starT
  rw [dats_map]
  refine Jl.pre fun u q => ?_
  split at q
  · rename_i c
    dsimp only
    rw [if_pos c]
    exact lift_run e1 (dats_map [.tuple ds])
  · cases q
end
/-! ### nine names, a list -/
def unLn (n : Nat) : PyData → Option (List PyData)
  | .list ds => if ds.length = n then some ds else none
  | _ => none
theorem tg_9L {l : En} (i1 i2 i3 i4 i5 i6 i7 i8 i9 : Nat) (d : PyData) :
    Jd l (gTpL 9 (gsCons (gNm i1) (gsCons (gNm i2) (gsCons (gNm i3) (gsCons (gNm i4) (gsCons (gNm i5) (gsCons (gNm i6) (gsCons (gNm i7) (gsCons (gNm i8) (gsCons (gNm i9) gsNil))))))))) (.dat d)) (S.lift (unLn 9 d))
      (pT fun ds => ((((((((l.set i1 (some (.im (ds.getD 0 .none)))).set i2 (some (.im (ds.getD 1 .none)))).set i3 (some (.im (ds.getD 2 .none)))).set i4 (some (.im (ds.getD 3 .none)))).set i5 (some (.im (ds.getD 4 .none)))).set i6 (some (.im (ds.getD 5 .none)))).set i7 (some (.im (ds.getD 6 .none)))).set i8 (some (.im (ds.getD 7 .none)))).set i9 (some (.im (ds.getD 8 .none)))) := fun k rest ρ μ e => by
  refine Jl.lift fun ds q => ?_
  cases d with
  | list xs =>
    have q' : (if xs.length = 9 then some xs else none) = some ds := q
    split at q'
    · rename_i hl
      cases q'
      exact match ds, hl with
      | [a1, a2, a3, a4, a5, a6, a7, a8, a9], _ => ⟨_, μ, rfl, ((((((((e.setI i1 a1).setI i2 a2).setI i3 a3).setI i4 a4).setI i5 a5).setI i6 a6).setI i7 a7).setI i8 a8).setI i9 a9⟩
    · cases q'
  | _ => cases q
end Pf

namespace Pf
open PySem PySem.Spec PyProof.Rows L2
/-! ### a list that is written no more becomes data, between two statements -/
def frzB {α : Type} (i : Nat) (G : Rho → M α) (ρ : Rho) : M α := fun μ => match ρ[i]? with
  | some (some (.ref t)) => match μ[t]? with
    | some (.lst xs) => match dats xs with
      | some ds => G (ρ.set i (some (.dat (.list ds)))) (μ.set t .gone)
      | none => none
    | _ => none
  | _ => none
theorem q_frz {X : Cx} {E : XK} {sts : List Stmt} {G : Rho → M Out} (i : Nat) (h : PSSX X E sts G) : PSSX X E sts (frzB i G) := pss_weak h fun D σ H ⟨W, ρ, μ, r, h, e, q⟩ => by
  unfold frzB at e
  split at e
  · rename_i t hi
    split at e
    · rename_i xs ht
      split at e
      · rename_i ds hd
        obtain ⟨W', g, R', hq, he, hs⟩ := h.rel.freeze ht hd
        have gr : Grow W H μ W' H (μ.set t .gone) := grow_freeze ht g he hs
        obtain ⟨v, hv, t0, ev⟩ := h.sl.at_ i _ hi
        have sl := h.sl.grow gr
        refine ⟨W', ρ.set i (some (.dat (.list ds))), μ.set t .gone, r, ⟨R', ⟨fun j x ej => ?_, by rw [List.length_set]; exact sl.len⟩⟩, e, q.later gr⟩
        by_cases hj : i = j
        · subst hj
          have hl := (List.getElem?_eq_some_iff.mp hi).1
          rw [List.getElem?_set_self hl] at ej
          cases ej
          exact ⟨v, hv, by rw [ev]; exact hq⟩
        · rw [List.getElem?_set_ne hj] at ej
          exact sl.at_ j x ej
      · cases e
    · cases e
  · cases e
end Pf

namespace Pf
open PySem PySem.Spec PyProof.Rows L2
theorem EnvR.thaw {l : En} {k : Dk} {rest : Mu} {ρ : Rho} {μ : Mu} {i t : Nat} {ds : List PyData} (h : EnvR l k rest ρ μ) (hi : l[i]? = some (some (.mt ds))) (hr : ρ[i]? = some (some (.ref t))) : EnvR (l.set i (some (.im (.list ds)))) k rest (ρ.set i (some (.dat (.list ds)))) (μ.set t .gone) := by
  have h2 := (h.freeze hi hr .gone).setI i (.list ds)
  rwa [List.set_set] at h2
theorem j_frz {β : Type} {l : En} {G : Rho → M Out} {t : S β} {P : Dk → Mu → Mu → Out → β → Prop} (i : Nat) {ds : List PyData} (hi : l[i]? = some (some (.mt ds))) (h : Jd (l.set i (some (.im (.list ds)))) G t fun k rest _ μ a b => P k rest μ a b) : Jd l (frzB i G) t fun k rest _ μ a b => P k rest μ a b := fun k rest ρ μ e => by
  obtain ⟨s, h1, tt, rfl, h3, h4⟩ := e.at_ i _ hi
  have z := h k rest _ _ (e.thaw hi h1)
  intro r k' q
  have e1 : frzB i G ρ μ = G (ρ.set i (some (.dat (.list ds)))) (μ.set tt .gone) := by
    unfold frzB
    rw [h1]
    dsimp only
    rw [h4]
    dsimp only
    rw [dats_map]
  rw [e1]
  exact z r k' q
theorem j_frzN {σ : Type} {l : En} {G : Rho → M Out} {t : S σ} {e' : σ → En} (i : Nat) {ds : List PyData} (hi : l[i]? = some (some (.mt ds))) (h : Jd (l.set i (some (.im (.list ds)))) G t (pN e')) : Jd l (frzB i G) t (pN e') := j_frz i hi h
theorem j_frzS {τ : Type} {x : Bool} {l : En} {G : Rho → M Out} {t : S (Fl τ)} {e' : τ → En} (i : Nat) {ds : List PyData} (hi : l[i]? = some (some (.mt ds))) (h : Jd (l.set i (some (.im (.list ds)))) G t (pS x e')) : Jd l (frzB i G) t (pS x e') := j_frz i hi h
end Pf

namespace Pf
open PySem PySem.Spec PyProof.Rows L2
section
variable {X : Cx} {E : XK}
/-! ### str(an int) -/
def bStr (ss : List Sv) : M Sv := match ss with
  | [.dat (.int i)] => if decide (i.natAbs.log2 < 1920) = true then M.ret (.dat (.str (toString i))) else M.fail
  | _ => M.fail
theorem b_str : CallR X (.type "str") (rC X.K E bStr) := by
  intro pins s σ H xs us Q I rv ⟨W, μ, ss, r, R, rs, e, q⟩
  unfold bStr at e
  split at e
  · split at e
    · rename_i hl
      cases e
      obtain ⟨x, rfl, h⟩ := rels1 rs
      cases h
      exact call_str_int pins s σ H _ us Q I rv ⟨_, rfl, of_decide_eq_true hl, q _ _ (Grow.refl _ _ _) R _ (.str _)⟩
    · cases e
  · cases e
end
end Pf

namespace Pf
open PySem PySem.Spec PyProof.Rows L2
def oStr (d : PyData) : Option PyData := match d with
  | .int i => if decide (i.natAbs.log2 < 1920) = true then some (.str (toString i)) else none
  | _ => none
theorem bl_str : Bl1 bStr oStr := fun a da d μ ra e => by
  unfold oStr at e
  split at e
  · split at e
    · rename_i h
      rw [ra.nl rfl]
      cases e
      show (if _ = true then _ else _ : M Sv) μ = _
      rw [if_pos h]
      rfl
    · cases e
  · cases e
/-! ### xs = xs + [..], xs a list that may be written -/
def oAddM (ds : List PyData) (b : PyData) : Option (List PyData) := match b with
  | .list ys => if szOk (ds.length + ys.length) = true then some (ds ++ ys) else none
  | _ => none
theorem m_addS {l l2 : En} {Fb : Rho → M Sv} {tb : S PyData} (i : Nat) {ds0 ds : List PyData} (hi : l[i]? = some (some (.mt ds0))) (hb : Jd l Fb tb (pW l2)) (hj : l2[i]? = some (some (.mt ds))) : Jd l (bin (pAdd true) (slot i) Fb) (tb.bind fun b => S.lift (oAddM ds b)) (pM l2) := fun k rest ρ μ e => by
  obtain ⟨s, h1, t, rfl, h3, h4⟩ := e.at_ i _ hi
  intro r k' q
  unfold bin
  rw [bind_ok (slot_at μ h1)]
  refine ((hb k rest ρ μ e).bind fun k2 μ2 b db ⟨rb, e2⟩ => ?_) r k' q
  obtain ⟨s', h1', t', rfl, h3', h4'⟩ := e2.at_ i _ hj
  rw [h1] at h1'
  cases h1'
  refine Jl.lift fun xs q => ?_
  cases db with
  | list ys =>
    unfold oAddM at q
    dsimp only at q
    split at q
    · rename_i hs
      cases q
      refine ⟨.ref μ2.length, μ2 ++ [.lst ((ds ++ ys).map Sv.dat)], ?_, μ2, rfl, rfl, e2⟩
      have z1 : lsOf (.ref t) μ2 = some (.ok (ds.map Sv.dat) μ2) := by
        unfold lsOf
        simp only [h4']
      have z2 := rb.ls
      show M.bind (lsOf (.ref t)) _ μ2 = _
      rw [bind_ok z1, bind_ok z2]
      have z3 : (if szOk ((ds.map Sv.dat).length + (ys.map Sv.dat).length) = true then mkl true (ds.map Sv.dat ++ ys.map Sv.dat) else M.fail) = mkl true ((ds ++ ys).map Sv.dat) := by
        rw [if_pos (by rw [List.length_map, List.length_map]; exact hs), ← List.map_append]
      show (if szOk ((ds.map Sv.dat).length + (ys.map Sv.dat).length) = true then mkl true (ds.map Sv.dat ++ ys.map Sv.dat) else M.fail : M Sv) μ2 = _
      rw [z3]
      rfl
    · cases q
  | _ => cases q
/-! ### a def that calls itself: what it does with no calls left is not said -/
theorem liftF_none {T : List PyData → S PyData} (h : ∀ ds k, T ds k = none) (ss : List Sv) (μ : Mu) : liftF T ss μ = none := by
  unfold liftF
  split
  · rw [h]
  · rfl
theorem liftD_none {T : List PyData → S PyData} (h : ∀ ds k, T ds k = none) (ss : List Sv) (μ : Mu) : liftD T ss μ = none := by
  unfold liftD
  split
  · exact liftF_none h _ μ
  · rfl
theorem u1_none : ∀ (ds : List PyData) (k : Dk), u1 (fun _ _ => none) ds k = none
  | [], _ => rfl
  | [_], _ => rfl
  | _ :: _ :: _, _ => rfl
theorem u2_none : ∀ (ds : List PyData) (k : Dk), u2 (fun _ _ _ => none) ds k = none
  | [], _ => rfl
  | [_], _ => rfl
  | [_, _], _ => rfl
  | _ :: _ :: _ :: _, _ => rfl
theorem u3_none : ∀ (ds : List PyData) (k : Dk), u3 (fun _ _ _ _ => none) ds k = none
  | [], _ => rfl
  | [_], _ => rfl
  | [_, _], _ => rfl
  | [_, _, _], _ => rfl
  | _ :: _ :: _ :: _ :: _, _ => rfl
end Pf

namespace Pf
open PySem PySem.Spec PyProof.Rows L2
section
variable {X : Cx} {E : XK} {a b e : Expr} {Fa Fb : Rho → M Sv} {pos p : Pos}
/-! ### sep.join(texts) -/
def strsOf : List PyData → Option (List Str)
  | [] => some []
  | .str x :: r => (strsOf r).map (x :: ·)
  | _ :: _ => none
theorem strsOf_map {ds : List PyData} : ∀ {ys : List Str}, strsOf ds = some ys → ds = ys.map .str := by
  induction ds with
  | nil => intro ys h; cases h; rfl
  | cons d r ih =>
    intro ys h
    cases d with
    | str x =>
      simp only [strsOf] at h
      cases q : strsOf r with
      | none => rw [q] at h; cases h
      | some zs =>
        rw [q] at h
        cases h
        rw [ih q]
        rfl
    | _ => simp only [strsOf] at h; cases h
theorem dqs_strs {K : PySem.W.Frag} {H : Hp} : ∀ {ys : List Str} {vs : List V}, Dqs K H vs (ys.map .str) → vs = ys.map V.str
  | [], _, .nil => rfl
  | y :: ys, _, .cons h r => by
    cases h
    rw [dqs_strs r]
    rfl
def joinOk (x : Str) (ys : List Str) : Bool := decide ((ys.map (·.length)).sum + ys.length * x.length ≤ 1000000)
def seqStrs : PyData → Option (List Str)
  | .list ds => strsOf ds
  | .tuple ds => strsOf ds
  | _ => none
def bJoin (x : Str) (ss : List Sv) : M Sv := match ss with
  | [s] => (rd s).bind fun d => match seqStrs d with
    | some ys => if joinOk x ys = true then M.ret (.dat (.str (Txt.join x ys))) else M.fail
    | none => M.fail
  | _ => M.fail
theorem x_join {apos : Pos} {x : Str} {j : Nat} {p : Pos} (he : PX X E b Fb) (hs : starEach [b] X.env = [(false, eval b X.env)] := by rfl) (hbase : attributeBase (.Constant (.str x) j p) "join" X.env (eval (.Constant (.str x) j p) X.env) = eval (.Constant (.str x) j p) X.env := by rfl) (hline : (apos.endLine == pos.line) = true := by rfl) :
    PX X E (.Call (.Attribute (.Constant (.str x) j p) "join" apos) [b] [] pos) (callV (bJoin x) (argC Fb argN)) := pe_weak (pe_join pe_str he hs hbase hline) fun σ H Q ⟨W, ρ, μ, r, h, e, q⟩ => by
  refine ⟨⟨x, rfl⟩, ?_⟩
  have e' : M.bind (Fb ρ) (fun s => bJoin x [s]) μ = some r := by
    rw [← e]
    unfold callV argC
    rw [M.assoc]
    rfl
  refine tX_bind h e' q fun v s W1 H1 μ1 g1 h1 rs e1 q1 => ?_
  unfold bJoin at e1
  obtain ⟨d, e2, e3⟩ := rd_bind e1
  obtain ⟨d', z, hd⟩ := rd_rel h1.rel rs e2
  cases z
  cases es : seqStrs d with
  | none =>
    rw [es] at e3
    cases e3
  | some ys =>
    rw [es] at e3
    obtain ⟨c, e3⟩ := iff_ok e3
    cases e3
    have c' := of_decide_eq_true c
    have fin : ∀ p, (SqL X.K H1 p (ys.map V.str) ∨ SqT X.K H1 p (ys.map V.str)) → v = .ref p → ∃ a p, ∃ ys : List Str, V.str x = .str a ∧ [v] = [.ref p] ∧ (SqL X.K H1 p (ys.map V.str) ∨ SqT X.K H1 p (ys.map V.str)) ∧ (ys.map (·.length)).sum + ys.length * a.length ≤ 16777216 ∧ Q (.str (Txt.join a ys)) H1 := fun p hp ev =>
      ⟨x, p, ys, rfl, by rw [ev], hp, by omega, q1 _ _ (Grow.refl _ _ _) h1.rel _ (.str _)⟩
    cases hd with
    | lst h2 r2 =>
      have : _ = ys.map PyData.str := strsOf_map es
      subst this
      rw [dqs_strs r2] at h2
      exact fin _ (.inl (SqL.of h2)) rfl
    | tup h2 r2 =>
      have : _ = ys.map PyData.str := strsOf_map es
      subst this
      rw [dqs_strs r2] at h2
      exact fin _ (.inr h2) rfl
    | _ => cases es
/-! ### f-strings of texts and ints -/
def bFmt (ss : List Sv) : M Sv := match ss with
  | [.dat (.str x)] => if szOk x.length = true then M.ret (.dat (.str x)) else M.fail
  | [.dat (.int i)] => if decide (i.natAbs.log2 < 1920) = true then M.ret (.dat (.str (toString i))) else M.fail
  | _ => M.fail
theorem x_fmt (he : PX X E e Fa) : PX X E (.FormattedValue e (-1) none pos) (callV bFmt (argC Fa argN)) := pe_weak (pe_fmt he) fun σ H Q ⟨W, ρ, μ, r, h, e, q⟩ => by
  have e' : M.bind (Fa ρ) (fun s => bFmt [s]) μ = some r := by
    rw [← e]
    unfold callV argC
    rw [M.assoc]
    rfl
  refine tX_bind h e' q fun v s W1 H1 μ1 g1 h1 rs e1 q1 => ?_
  cases s with
  | dat d =>
    cases d with
    | str x =>
      have e2 : (if szOk x.length = true then M.ret (.dat (.str x)) else M.fail : M Sv) μ1 = some r := e1
      obtain ⟨c, e3⟩ := iff_ok e2
      cases e3
      cases rs
      exact .inl ⟨_, rfl, szOk_line c, q1 _ _ (Grow.refl _ _ _) h1.rel _ (.str _)⟩
    | int i =>
      have e2 : (if decide (i.natAbs.log2 < 1920) = true then M.ret (.dat (.str (toString i))) else M.fail : M Sv) μ1 = some r := e1
      obtain ⟨c, e3⟩ := iff_ok e2
      cases e3
      cases rs
      exact .inr ⟨_, rfl, of_decide_eq_true c, q1 _ _ (Grow.refl _ _ _) h1.rel _ (.str _)⟩
    | _ => cases e1
  | _ => cases e1
def jsB (A : Rho → M Sv) : List (Rho → M Sv) → Rho → M Sv
  | [] => A
  | F :: Fs => jsB (bin (pAdd false) A F) Fs
def jsS (s : Sv) : List (Rho → M Sv) → Rho → M Sv
  | [], _ => M.ret s
  | F :: Fs, ρ => (F ρ).bind fun b => (pAdd false s b).bind fun s' => jsS s' Fs ρ
theorem jsB_eq : ∀ (Fs : List (Rho → M Sv)) (A : Rho → M Sv) (ρ : Rho), jsB A Fs ρ = (A ρ).bind fun s => jsS s Fs ρ
  | [], A, ρ => (M.bind_ret _).symm
  | F :: Fs, A, ρ => by
    show jsB (bin (pAdd false) A F) Fs ρ = _
    rw [jsB_eq Fs]
    unfold bin
    rw [M.assoc]
    congr 1
    funext a
    rw [M.assoc]
    rfl
inductive PJX (X : Cx) (E : XK) : List Expr → List (Rho → M Sv) → Prop where
  | nil : PJX X E [] []
  | cons {e : Expr} {F : Rho → M Sv} {es : List Expr} {Fs : List (Rho → M Sv)} (h : PX X E e F) (r : PJX X E es Fs) : PJX X E (e :: es) (F :: Fs)
theorem PJX.pj {es : List Expr} {Fs : List (Rho → M Sv)} (h : PJX X E es Fs) : PJ X es (Fs.map (tX X.K E)) := by
  induction h with
  | nil => exact .nil
  | cons h r ih => exact .cons h ih
theorem js_ent {K : PySem.W.Frag} {σ : L2.St} {Q : VK} : ∀ (Fs : List (Rho → M Sv)) (acc : Str) (W : Wd) (H : Hp) (ρ : Rho) (μ : Mu) (r : Res Sv), Here K W σ H ρ μ → jsS (.dat (.str acc)) Fs ρ μ = some r → KoV K E W H μ r Q → tJs (Fs.map (tX K E)) acc σ H fun out H1 => Q (.str out) H1
  | [], acc, W, H, ρ, μ, r, h, e, q => by
    cases e
    exact q _ _ (Grow.refl _ _ _) h.rel _ (.str _)
  | F :: Fs, acc, W, H, ρ, μ, r, h, e, q => by
    refine tX_bind h e q fun v s W1 H1 μ1 g1 h1 rs e1 q1 => ?_
    cases s with
    | dat d =>
      cases d with
      | str y =>
        have e2 : M.bind (if szOk (acc.length + y.length) = true then M.ret (.dat (.str (acc ++ y))) else M.fail : M Sv) (fun s' => jsS s' Fs ρ) μ1 = some r := e1
        by_cases c : szOk (acc.length + y.length) = true
        · rw [if_pos c] at e2
          cases rs
          refine ⟨_, rfl, ?_, js_ent Fs _ W1 H1 ρ μ1 r h1 e2 q1⟩
          rw [strLen_append]
          exact szOk_line c
        · rw [if_neg c] at e2
          cases e2
      | _ => cases e1
    | _ => cases e1
theorem x_fs {v1 v2 : Expr} {rest : List Expr} {Fs : List (Rho → M Sv)} (h : PJX X E (v1 :: v2 :: rest) Fs) : PX X E (.JoinedStr (v1 :: v2 :: rest) pos) (jsB (con (.str Str.empty)) Fs) := pe_weak (pe_joined h.pj) fun σ H Q ⟨W, ρ, μ, r, h, e, q⟩ => by
  rw [jsB_eq] at e
  exact js_ent Fs _ W H ρ μ r h e q
end
end Pf

namespace Pf
open PySem PySem.Spec PyProof.Rows L2
def oJoin (x : Str) (d : PyData) : Option PyData := match seqStrs d with
  | some ys => if joinOk x ys = true then some (.str (Txt.join x ys)) else none
  | none => none
theorem bl_join (x : Str) : Bl1 (bJoin x) (oJoin x) := fun a da d μ ra e => by
  unfold oJoin at e
  cases es : seqStrs da with
  | none =>
    rw [es] at e
    cases e
  | some ys =>
    rw [es] at e
    have e' : (if joinOk x ys = true then some (PyData.str (Txt.join x ys)) else none) = some d := e
    by_cases c : joinOk x ys = true
    · rw [if_pos c] at e'
      cases e'
      show M.bind (rd a) _ μ = _
      rw [bind_ok ra.rd]
      show (match seqStrs da with | some ys => if joinOk x ys = true then M.ret (.dat (.str (Txt.join x ys))) else M.fail | none => M.fail : M Sv) μ = _
      rw [es]
      show (if joinOk x ys = true then _ else _ : M Sv) μ = _
      rw [if_pos c]
      rfl
    · rw [if_neg c] at e'
      cases e'
def oFmt : PyData → Option PyData
  | .str x => if szOk x.length = true then some (.str x) else none
  | .int i => if decide (i.natAbs.log2 < 1920) = true then some (.str (toString i)) else none
  | _ => none
theorem bl_fmt : Bl1 bFmt oFmt := fun a da d μ ra e => by
  unfold oFmt at e
  cases da with
  | str x =>
    rw [ra.nl rfl]
    dsimp only at e
    show (if szOk x.length = true then M.ret (.dat (.str x)) else M.fail : M Sv) μ = _
    by_cases c : szOk x.length = true
    · rw [if_pos c] at e ⊢
      cases e
      rfl
    · rw [if_neg c] at e
      cases e
  | int i =>
    rw [ra.nl rfl]
    dsimp only at e
    show (if decide (i.natAbs.log2 < 1920) = true then M.ret (.dat (.str (toString i))) else M.fail : M Sv) μ = _
    by_cases c : decide (i.natAbs.log2 < 1920) = true
    · rw [if_pos c] at e ⊢
      cases e
      rfl
    · rw [if_neg c] at e
      cases e
  | _ => cases e
end Pf

set_option maxHeartbeats 1000000
namespace Pf
open PySem PySem.Spec PyProof.Rows L2
noncomputable abbrev T__law_draw := TdrawEh
noncomputable abbrev F__law_draw := liftD (u1 TdrawEh)
noncomputable def T_push_text (a0 a1 : PyData) : S PyData :=
  ((((S.ret (PyData.str Str.empty)).bind fun x2 => ((S.ret a0).bind fun x1 => S.lift (oFmt x1)).bind fun x3 => S.lift (oAdd x2 x3)).bind fun x4 => (S.ret (PyData.str "@")).bind fun x5 => S.lift (oAdd x4 x5)).bind fun x7 => ((S.ret a1).bind fun x6 => S.lift (oFmt x6)).bind fun x8 => S.lift (oAdd x7 x8))
noncomputable abbrev F_push_text : List Sv → M Sv := liftF (u2 T_push_text)
noncomputable def G_push_text : Rho → M Out :=
  (gRet (jsB (con (.str Str.empty)) [(callV bFmt (argC (slot 0) argN)), (con (.str "@")), (callV bFmt (argC (slot 1) argN))]))
theorem tt_push_text (a0 a1 : PyData) : Jd [some (.im a0), some (.im a1)] G_push_text (T_push_text a0 a1) pR := by
  unfold T_push_text G_push_text
  exact (r_ret (e_bin op_add' (e_bin op_add' (e_bin op_add' (e_con (PyData.str Str.empty)) (e_w (e_bl1 bl_fmt (e_w (e_slot 0 rfl))))) (e_w (e_con (PyData.str "@")))) (e_w (e_bl1 bl_fmt (e_w (e_slot 1 rfl))))))
theorem same_push_text (ss : List Sv) (μ : Mu) (r : Res Sv) (hs : ss.length = 2) (wf : Wf μ) (e : F_push_text ss μ = some r) : ∃ r', G_push_text (ini 2 ss) μ = some r' ∧ Agree μ.length r r' :=
  same_T (n := 2) (fun ds h => by
    obtain ⟨a0, a1, rfl⟩ := len2 h
    exact r_e (tt_push_text a0 a1)) ss μ r hs wf e
noncomputable def T_field_text (a0 a1 : PyData) : S PyData :=
  (((((S.ret a0).bind fun x1 => S.lift (seqD x1)).bind fun ds9 => (S.lift (szD ds9)).bind fun _ => (S.mapM (fun d2 => S.noEx (((S.lift (un2 d2)).bind fun p3 => (S.ret p3.1).bind fun s4 => (S.ret p3.2).bind fun s6 => S.ret (s4, s6)).bind fun s8 => ((((S.ret (PyData.str Str.empty)).bind fun x12 => ((S.ret s8.1).bind fun x11 => S.lift (oFmt x11)).bind fun x13 => S.lift (oAdd x12 x13)).bind fun x14 => (S.ret (PyData.str ":")).bind fun x15 => S.lift (oAdd x14 x15)).bind fun x17 => ((S.ret s8.2).bind fun x16 => S.lift (oFmt x16)).bind fun x18 => S.lift (oAdd x17 x18)))) ds9).bind fun xs10 => S.ret (PyData.list xs10)).bind fun x19 => S.lift (oJoin " " x19)).bind fun v20 =>
  ((((((S.ret v20).bind fun x21 => (S.ret (PyData.str ";")).bind fun x22 => S.lift (oAdd x21 x22)).bind fun x23 => (S.ret []).bind fun as24 => S.ret (x23 :: as24)).bind fun as25 => S.ret (PyData.list as25)).bind fun x40 => (((S.ret a1).bind fun x26 => S.lift (seqD x26)).bind fun ds34 => (S.lift (szD ds34)).bind fun _ => (S.mapM (fun d27 => S.noEx (((S.lift (un2 d27)).bind fun p28 => (S.ret p28.1).bind fun s29 => (S.ret p28.2).bind fun s31 => S.ret (s29, s31)).bind fun s33 => (((S.ret s33.1).bind fun x38 => ((S.ret s33.2).bind fun x36 => (S.ret []).bind fun as37 => S.ret (x36 :: as37)).bind fun as39 => S.ret (x38 :: as39)).bind (u2 T_push_text)))) ds34).bind fun xs35 => S.ret (PyData.list xs35)).bind fun x41 => S.lift (oAdd x40 x41)).bind fun x42 => S.lift (oJoin " " x42)))
noncomputable abbrev F_field_text : List Sv → M Sv := liftF (u2 T_field_text)
noncomputable def G_field_text : Rho → M Out :=
  (gSeq (gSet 2 (callV (bJoin " ") (argC (lcV false [3, 4] (seqV (slot 0)) (gTp 2 (gsCons (gNm 3) (gsCons (gNm 4) gsNil))) yes (jsB (con (.str Str.empty)) [(callV bFmt (argC (slot 3) argN)), (con (.str ":")), (callV bFmt (argC (slot 4) argN))])) argN)))
  (gRet (callV (bJoin " ") (argC (bin (pAdd false) (lstV false (argC (bin (pAdd false) (slot 2) (con (.str ";"))) argN)) (lcV false [5, 6] (seqV (slot 1)) (gTp 2 (gsCons (gNm 5) (gsCons (gNm 6) gsNil))) yes (callF F_push_text 2 (argC (slot 5) (argC (slot 6) argN))))) argN))))
theorem tt_field_text (a0 a1 : PyData) : Jd [some (.im a0), some (.im a1), none, none, none, none, none] G_field_text (T_field_text a0 a1) pR := by
  unfold T_field_text G_field_text
  exact (r_seq (s_setI 2 (e_bl1 (bl_join " ") (e_w (e_lc (u := fun d2 => ((S.lift (un2 d2)).bind fun p3 => (S.ret p3.1).bind fun s4 => (S.ret p3.2).bind fun s6 => S.ret (s4, s6))) (e' := fun (s : ((PyData) × (PyData))) => [some (.im a0), some (.im a1), none, some (.im s.1), some (.im s.2), none, none]) [3, 4] (w_seq (e_slot 0 rfl)) rfl (fun d2 => (tc_tp2 (e1 := fun (s4 : PyData) => [some (.im a0), some (.im a1), none, some (.im s4), none, none, none]) (e2 := fun (s4 : PyData) (s6 : PyData) => [some (.im a0), some (.im a1), none, some (.im s4), some (.im s6), none, none]) (u1 := fun d5 => (S.ret d5)) (u2 := fun d7 => (S.ret d7)) d2 (fun d5 => (tc_nm 3 d5 rfl)) (fun s4 d7 => (tc_nm 4 d7 rfl)))) (fun s8 => (e_bin op_add' (e_bin op_add' (e_bin op_add' (e_con (PyData.str Str.empty)) (e_w (e_bl1 bl_fmt (e_w (e_slot 3 rfl))))) (e_w (e_con (PyData.str ":")))) (e_w (e_bl1 bl_fmt (e_w (e_slot 4 rfl)))))))))) fun v20 =>
  (r_ret (e_bl1 (bl_join " ") (e_w (e_bin op_add' (e_lst (a_cons' (e_bin op_add' (e_slot 2 rfl) (e_w (e_con (PyData.str ";")))) a_nil')) (e_w (e_lc (u := fun d27 => ((S.lift (un2 d27)).bind fun p28 => (S.ret p28.1).bind fun s29 => (S.ret p28.2).bind fun s31 => S.ret (s29, s31))) (e' := fun (s : ((PyData) × (PyData))) => [some (.im a0), some (.im a1), some (.im v20), none, none, some (.im s.1), some (.im s.2)]) [5, 6] (w_seq (e_slot 1 rfl)) rfl (fun d27 => (tc_tp2 (e1 := fun (s29 : PyData) => [some (.im a0), some (.im a1), some (.im v20), none, none, some (.im s29), none]) (e2 := fun (s29 : PyData) (s31 : PyData) => [some (.im a0), some (.im a1), some (.im v20), none, none, some (.im s29), some (.im s31)]) (u1 := fun d30 => (S.ret d30)) (u2 := fun d32 => (S.ret d32)) d27 (fun d30 => (tc_nm 5 d30 rfl)) (fun s29 d32 => (tc_nm 6 d32 rfl)))) (fun s33 => (e_call (a_cons' (e_slot 5 rfl) (a_cons' (e_slot 6 rfl) a_nil')))))))))))
theorem same_field_text (ss : List Sv) (μ : Mu) (r : Res Sv) (hs : ss.length = 2) (wf : Wf μ) (e : F_field_text ss μ = some r) : ∃ r', G_field_text (ini 7 ss) μ = some r' ∧ Agree μ.length r r' :=
  same_T (n := 2) (fun ds h => by
    obtain ⟨a0, a1, rfl⟩ := len2 h
    exact r_e (tt_field_text a0 a1)) ss μ r hs wf e
noncomputable def T__law_tree (a1 a2 : PyData) : S PyData :=
  ((((((S.ret (PyData.int 1)).bind fun x3 => (((S.ret a1).bind fun x1 => (S.ret []).bind fun as2 => S.ret (x1 :: as2)).bind (u1 T__law_draw)).bind fun x4 => S.lift (oAdd x3 x4)).bind fun x9 => ((((S.ret (PyData.int 3)).bind fun x5 => (S.ret []).bind fun as6 => S.ret (x5 :: as6)).bind (u1 T__law_draw)).bind fun x7 => (S.ret []).bind fun as8 => S.ret (x7 :: as8)).bind fun as10 => S.ret (x9 :: as10)).bind fun as11 => S.ret (PyData.tuple as11)).bind fun d12 => ((S.lift (un2 d12)).bind fun p13 => (S.ret p13.1).bind fun s14 => (S.ret p13.2).bind fun s16 => S.ret (s14, s16))).bind fun v18 =>
  (((((S.ret v18.1).bind fun x19 => (S.ret (PyData.int 1)).bind fun x20 => S.lift (oSub x19 x20)).bind fun x21 => S.lift (rngD x21)).bind fun ds24 => (S.lift (szD ds24)).bind fun _ => (S.mapM (fun d22 => S.noEx ((S.ret d22).bind fun s23 => ((((S.ret s23).bind fun x34 => ((S.ret (PyData.int 0)).bind fun x32 => (((((S.ret s23).bind fun x26 => (S.ret (PyData.int 1)).bind fun x27 => S.lift (oAdd x26 x27)).bind fun x28 => (S.ret []).bind fun as29 => S.ret (x28 :: as29)).bind (u1 T__law_draw)).bind fun x30 => (S.ret []).bind fun as31 => S.ret (x30 :: as31)).bind fun as33 => S.ret (x32 :: as33)).bind fun as35 => S.ret (x34 :: as35)).bind fun as36 => S.ret (PyData.list as36)).bind fun x37 => (S.ret v18.2).bind fun x38 => S.lift (oIx x37 x38)))) ds24).bind fun xs25 => S.ret (PyData.list xs25)).bind fun v39 =>
  ((((S.ret v39).bind fun x40 => S.lift (seqD x40)).bind fun ds43 => (S.lift (szD ds43)).bind fun _ => (S.mapM (fun d41 => S.noEx ((S.ret d41).bind fun s42 => (((S.ret s42).bind fun x51 => (((S.ret (PyData.int 1)).bind fun x47 => (((S.ret a2).bind fun x45 => (S.ret []).bind fun as46 => S.ret (x45 :: as46)).bind (u1 T__law_draw)).bind fun x48 => S.lift (oAdd x47 x48)).bind fun x49 => (S.ret []).bind fun as50 => S.ret (x49 :: as50)).bind fun as52 => S.ret (x51 :: as52)).bind fun as53 => S.ret (PyData.tuple as53)))) ds43).bind fun xs44 => S.ret (PyData.list xs44)).bind fun x54 => S.lift (oTuple x54))))
noncomputable abbrev F__law_tree : List Sv → M Sv := liftD (u2 T__law_tree)
noncomputable def G__law_tree : Rho → M Out :=
  (gSeq (gAsg (tupV (argC (bin (pAdd false) (con (.int 1)) (callF F__law_draw 2 (argC (slot 0) (argC (slot 1) argN)))) (argC (callF F__law_draw 2 (argC (slot 0) (argC (con (.int 3)) argN))) argN))) (gTp 2 (gsCons (gNm 4) (gsCons (gNm 5) gsNil))))
  (gSeq (gSet 3 (lcV false [6] (rngV (bin pSub (slot 4) (con (.int 1)))) (gNm 6) yes (bin pIx (lstV false (argC (slot 6) (argC (con (.int 0)) (argC (callF F__law_draw 2 (argC (slot 0) (argC (bin (pAdd false) (slot 6) (con (.int 1))) argN))) argN)))) (slot 5))))
  (gRet (callV bTuple (argC (lcV false [7] (seqV (slot 3)) (gNm 7) yes (tupV (argC (slot 7) (argC (bin (pAdd false) (con (.int 1)) (callF F__law_draw 2 (argC (slot 0) (argC (slot 2) argN)))) argN)))) argN)))))
theorem tt__law_tree (a1 a2 : PyData) : Jd [some .dk, some (.im a1), some (.im a2), none, none, none, none, none] G__law_tree (T__law_tree a1 a2) pR := by
  unfold T__law_tree G__law_tree
  exact (r_seq (s_asg' (u := fun d12 => ((S.lift (un2 d12)).bind fun p13 => (S.ret p13.1).bind fun s14 => (S.ret p13.2).bind fun s16 => S.ret (s14, s16))) (e' := fun (s : ((PyData) × (PyData))) => [some .dk, some (.im a1), some (.im a2), none, some (.im s.1), some (.im s.2), none, none]) (e_tup (a_cons' (e_bin op_add' (e_con (PyData.int 1)) (e_w (e_callD 0 rfl (a_cons' (e_slot 1 rfl) a_nil')))) (a_cons' (e_callD 0 rfl (a_cons' (e_con (PyData.int 3)) a_nil')) a_nil'))) fun d12 => (tg_tp2 (e1 := fun (s14 : PyData) => [some .dk, some (.im a1), some (.im a2), none, some (.im s14), none, none, none]) (e2 := fun (s14 : PyData) (s16 : PyData) => [some .dk, some (.im a1), some (.im a2), none, some (.im s14), some (.im s16), none, none]) (u1 := fun d15 => (S.ret d15)) (u2 := fun d17 => (S.ret d17)) d12 (fun d15 => (tg_nm 4 d15)) (fun s14 d17 => (tg_nm 5 d17)))) fun v18 =>
  (r_seq (s_setI 3 (e_lc (u := fun d22 => (S.ret d22)) (e' := fun (s : PyData) => [some .dk, some (.im a1), some (.im a2), none, some (.im v18.1), some (.im v18.2), some (.im s), none]) [6] (w_rng (e_bin op_sub' (e_slot 4 rfl) (e_w (e_con (PyData.int 1))))) rfl (fun d22 => (tc_nm 6 d22 rfl)) (fun s23 => (e_bin op_ix' (e_lst (a_cons' (e_slot 6 rfl) (a_cons' (e_con (PyData.int 0)) (a_cons' (e_callD 0 rfl (a_cons' (e_bin op_add' (e_slot 6 rfl) (e_w (e_con (PyData.int 1)))) a_nil')) a_nil')))) (e_w (e_slot 5 rfl)))))) fun v39 =>
  (r_ret (e_bl1 bl_tuple (e_w (e_lc (u := fun d41 => (S.ret d41)) (e' := fun (s : PyData) => [some .dk, some (.im a1), some (.im a2), some (.im v39), some (.im v18.1), some (.im v18.2), none, some (.im s)]) [7] (w_seq (e_slot 3 rfl)) rfl (fun d41 => (tc_nm 7 d41 rfl)) (fun s42 => (e_tup (a_cons' (e_slot 7 rfl) (a_cons' (e_bin op_add' (e_con (PyData.int 1)) (e_w (e_callD 0 rfl (a_cons' (e_slot 2 rfl) a_nil')))) a_nil'))))))))))
theorem same__law_tree (ss : List Sv) (μ : Mu) (r : Res Sv) (hs : ss.length = 3) (wf : Wf μ) (e : F__law_tree ss μ = some r) : ∃ r', G__law_tree (ini 8 ss) μ = some r' ∧ Agree μ.length r r' :=
  same_D (n := 2) (by decide) (fun ds h => by
    obtain ⟨a1, a2, rfl⟩ := len2 h
    exact r_e (tt__law_tree a1 a2)) ss μ r hs wf e
noncomputable def T__law_pushes (a1 a2 a3 : PyData) : S PyData :=
  ((S.ret []).bind fun v1 =>
  (((((((S.ret a2).bind fun x2 => (S.ret (PyData.int 1)).bind fun x3 => S.lift (oAdd x2 x3)).bind fun x4 => (S.ret []).bind fun as5 => S.ret (x4 :: as5)).bind (u1 T__law_draw)).bind fun x6 => S.lift (rngD x6)).bind fun ds10 => S.foldM (fun (s7 : List PyData) d8 => (S.ret d8).bind fun t9 => ((((((((S.ret a1).bind fun x11 => S.lift (oLen x11)).bind fun x12 => (S.ret (PyData.int 1)).bind fun x13 => S.lift (oAdd x12 x13)).bind fun x14 => (S.ret []).bind fun as15 => S.ret (x14 :: as15)).bind (u1 T__law_draw)).bind fun x22 => (((((S.ret a3).bind fun x16 => (S.ret (PyData.int 1)).bind fun x17 => S.lift (oAdd x16 x17)).bind fun x18 => (S.ret []).bind fun as19 => S.ret (x18 :: as19)).bind (u1 T__law_draw)).bind fun x20 => (S.ret []).bind fun as21 => S.ret (x20 :: as21)).bind fun as23 => S.ret (x22 :: as23)).bind fun as24 => S.ret (PyData.tuple as24)).bind fun v25 =>
  (((((((S.ret []).bind fun as26 => S.ret (PyData.list as26)).bind fun x27 => S.lift (cNe (.list s7) x27)).bind fun z32 => bAnd z32 ((((S.ret (PyData.int 5)).bind fun x28 => (S.ret []).bind fun as29 => S.ret (x28 :: as29)).bind (u1 T__law_draw)).bind fun x30 => (S.ret (PyData.int 0)).bind fun x31 => S.lift (cEq x30 x31))).bind fun z34 => if z34 = true then ((S.ret (PyData.int 0)).bind fun x33 => S.lift (oIx (.list s7) x33)) else (S.ret v25)).bind fun x35 => S.lift (appD s7 x35)).bind fun s37 => S.ret (s37)))) ds10 (v1)).bind fun v38 =>
  ((S.ret (PyData.list v38)).bind fun x39 => S.lift (oTuple x39))))
noncomputable abbrev F__law_pushes : List Sv → M Sv := liftD (u3 T__law_pushes)
noncomputable def G__law_pushes : Rho → M Out :=
  (gSeq (gSet 4 (lstV true argN))
  (gSeq (gFor (rngV (callF F__law_draw 2 (argC (slot 0) (argC (bin (pAdd false) (slot 2) (con (.int 1))) argN)))) (gNm 5)
  (gSeq (gSet 6 (tupV (argC (callF F__law_draw 2 (argC (slot 0) (argC (bin (pAdd false) (callV bLen (argC (slot 1) argN)) (con (.int 1))) argN))) (argC (callF F__law_draw 2 (argC (slot 0) (argC (bin (pAdd false) (slot 3) (con (.int 1))) argN))) argN))))
  (gExpr (appV (slot 4) (ifV (andT (tst (bin pNe (slot 4) (lstV false argN))) (tst (bin pEq (callF F__law_draw 2 (argC (slot 0) (argC (con (.int 5)) argN))) (con (.int 0))))) (bin pIx (slot 4) (con (.int 0))) (slot 6))))))
  (gRet (callV bTuple (argC (slot 4) argN)))))
theorem tt__law_pushes (a1 a2 a3 : PyData) : Jd [some .dk, some (.im a1), some (.im a2), some (.im a3), none, none, none] G__law_pushes (T__law_pushes a1 a2 a3) pR := by
  unfold T__law_pushes G__law_pushes
  exact (r_seq (s_setM 4 (m_lst a_nil')) fun v1 =>
  (r_seq (s_for' (h := fun (s : List PyData) => [some .dk, some (.im a1), some (.im a2), some (.im a3), some (.mt s), none, none]) (v1) (w_rng (e_callD 0 rfl (a_cons' (e_bin op_add' (e_slot 2 rfl) (e_w (e_con (PyData.int 1)))) a_nil'))) (.keep (.keep (.keep (.keep (.keep (.drop (.drop .nil))))))) (fun s7 d8 => b_tg (u := fun d8 => (S.ret d8)) (e' := fun (t : PyData) => [some .dk, some (.im a1), some (.im a2), some (.im a3), some (.mt s7), some (.im t), none]) d8 (tg_nm 5 d8) fun t9 => ((r_seq (s_setI 6 (e_tup (a_cons' (e_callD 0 rfl (a_cons' (e_bin op_add' (e_bl1 bl_len (e_w (e_slot 1 rfl))) (e_w (e_con (PyData.int 1)))) a_nil')) (a_cons' (e_callD 0 rfl (a_cons' (e_bin op_add' (e_slot 3 rfl) (e_w (e_con (PyData.int 1)))) a_nil')) a_nil')))) fun v25 =>
  ((n_end (fun (s37 : List PyData) => (s37)) (s_app 4 rfl (e_if (u_and (u_binS op_eqn' 4 rfl (e_w (e_lst a_nil')) rfl) (u_bin op_eqn' (e_callD 0 rfl (a_cons' (e_con (PyData.int 5)) a_nil')) (e_w (e_con (PyData.int 0))))) (e_binS op_ix' 4 rfl (e_w (e_con (PyData.int 0))) rfl) (e_slot 6 rfl)) rfl) fun s37 => (.keep (.keep (.keep (.keep (.keep (.drop (.drop .nil))))))))))))) fun v38 =>
  (r_ret (e_bl1 bl_tuple (e_slotW 4 rfl)))))
theorem same__law_pushes (ss : List Sv) (μ : Mu) (r : Res Sv) (hs : ss.length = 4) (wf : Wf μ) (e : F__law_pushes ss μ = some r) : ∃ r', G__law_pushes (ini 7 ss) μ = some r' ∧ Agree μ.length r r' :=
  same_D (n := 3) (by decide) (fun ds h => by
    obtain ⟨a1, a2, a3, rfl⟩ := len3 h
    exact r_e (tt__law_pushes a1 a2 a3)) ss μ r hs wf e
noncomputable def T__law_state (a1 a2 : PyData) : S PyData :=
  (((((S.ret (PyData.int 3)).bind fun x1 => (S.ret []).bind fun as2 => S.ret (x1 :: as2)).bind (u1 T__law_draw)).bind fun x3 => (S.ret (PyData.int 0)).bind fun x4 => S.lift (asB2 (cEq x3 x4))).bind fun v5 =>
  ((((S.ret a1).bind fun x18 => (((((S.ret (PyData.int 6)).bind fun x10 => (((S.ret (PyData.int 10)).bind fun x6 => (S.ret (PyData.int 6)).bind fun x7 => S.lift (oPow x6 x7)).bind fun x8 => (S.ret []).bind fun as9 => S.ret (x8 :: as9)).bind fun as11 => S.ret (x10 :: as11)).bind fun as12 => S.ret (PyData.list as12)).bind fun x14 => ((S.ret v5).bind fun x13 => S.lift (oInt x13)).bind fun x15 => S.lift (oIx x14 x15)).bind fun x16 => (S.ret []).bind fun as17 => S.ret (x16 :: as17)).bind fun as19 => S.ret (x18 :: as19)).bind (u2 T__law_tree)).bind fun v20 =>
  (((S.ret v20).bind fun x39 => ((((S.ret v20).bind fun x35 => ((S.ret a2).bind fun x33 => (((((S.ret (PyData.int 12)).bind fun x25 => (((S.ret (PyData.int 10)).bind fun x21 => (S.ret (PyData.int 9)).bind fun x22 => S.lift (oPow x21 x22)).bind fun x23 => (S.ret []).bind fun as24 => S.ret (x23 :: as24)).bind fun as26 => S.ret (x25 :: as26)).bind fun as27 => S.ret (PyData.list as27)).bind fun x29 => ((S.ret v5).bind fun x28 => S.lift (oInt x28)).bind fun x30 => S.lift (oIx x29 x30)).bind fun x31 => (S.ret []).bind fun as32 => S.ret (x31 :: as32)).bind fun as34 => S.ret (x33 :: as34)).bind fun as36 => S.ret (x35 :: as36)).bind (u3 T__law_pushes)).bind fun x37 => (S.ret []).bind fun as38 => S.ret (x37 :: as38)).bind fun as40 => S.ret (x39 :: as40)).bind fun as41 => S.ret (PyData.tuple as41))))
noncomputable abbrev F__law_state : List Sv → M Sv := liftD (u2 T__law_state)
noncomputable def G__law_state : Rho → M Out :=
  (gSeq (gSet 3 (bin pEq (callF F__law_draw 2 (argC (slot 0) (argC (con (.int 3)) argN))) (con (.int 0))))
  (gSeq (gSet 4 (callF F__law_tree 3 (argC (slot 0) (argC (slot 1) (argC (bin pIx (lstV false (argC (con (.int 6)) (argC (bin pPow (con (.int 10)) (con (.int 6))) argN))) (callV bInt (argC (slot 3) argN))) argN)))))
  (gRet (tupV (argC (slot 4) (argC (callF F__law_pushes 4 (argC (slot 0) (argC (slot 4) (argC (slot 2) (argC (bin pIx (lstV false (argC (con (.int 12)) (argC (bin pPow (con (.int 10)) (con (.int 9))) argN))) (callV bInt (argC (slot 3) argN))) argN))))) argN))))))
theorem tt__law_state (a1 a2 : PyData) : Jd [some .dk, some (.im a1), some (.im a2), none, none] G__law_state (T__law_state a1 a2) pR := by
  unfold T__law_state G__law_state
  exact (r_seq (s_setI 3 (e_binB op_eqn' (e_callD 0 rfl (a_cons' (e_con (PyData.int 3)) a_nil')) (e_w (e_con (PyData.int 0))))) fun v5 =>
  (r_seq (s_setI 4 (e_callD 0 rfl (a_cons' (e_slot 1 rfl) (a_cons' (e_bin op_ix' (e_lst (a_cons' (e_con (PyData.int 6)) (a_cons' (e_bin op_pow' (e_con (PyData.int 10)) (e_w (e_con (PyData.int 6)))) a_nil'))) (e_w (e_bl1 bl_int (e_w (e_slot 3 rfl))))) a_nil')))) fun v20 =>
  (r_ret (e_tup (a_cons' (e_slot 4 rfl) (a_cons' (e_callD 0 rfl (a_cons' (e_slot 4 rfl) (a_cons' (e_slot 2 rfl) (a_cons' (e_bin op_ix' (e_lst (a_cons' (e_con (PyData.int 12)) (a_cons' (e_bin op_pow' (e_con (PyData.int 10)) (e_w (e_con (PyData.int 9)))) a_nil'))) (e_w (e_bl1 bl_int (e_w (e_slot 3 rfl))))) a_nil')))) a_nil'))))))
theorem same__law_state (ss : List Sv) (μ : Mu) (r : Res Sv) (hs : ss.length = 3) (wf : Wf μ) (e : F__law_state ss μ = some r) : ∃ r', G__law_state (ini 5 ss) μ = some r' ∧ Agree μ.length r r' :=
  same_D (n := 2) (by decide) (fun ds h => by
    obtain ⟨a1, a2, rfl⟩ := len2 h
    exact r_e (tt__law_state a1 a2)) ss μ r hs wf e
noncomputable def T__law_field_text (a0 : PyData) : S PyData :=
  ((((((S.ret a0).bind fun x1 => (S.ret (PyData.int 0)).bind fun x2 => S.lift (oIx x1 x2)).bind fun x3 => S.lift (seqD x3)).bind fun ds11 => (S.lift (szD ds11)).bind fun _ => (S.mapM (fun d4 => S.noEx (((S.lift (un2 d4)).bind fun p5 => (S.ret p5.1).bind fun s6 => (S.ret p5.2).bind fun s8 => S.ret (s6, s8)).bind fun s10 => ((((S.ret s10.1).bind fun x13 => S.lift (oStr x13)).bind fun x14 => (S.ret (PyData.str ":")).bind fun x15 => S.lift (oAdd x14 x15)).bind fun x17 => ((S.ret s10.2).bind fun x16 => S.lift (oStr x16)).bind fun x18 => S.lift (oAdd x17 x18)))) ds11).bind fun xs12 => S.ret (PyData.list xs12)).bind fun x19 => S.lift (oJoin " " x19)).bind fun v20 =>
  ((((((S.ret v20).bind fun x21 => (S.ret (PyData.str ";")).bind fun x22 => S.lift (oAdd x21 x22)).bind fun x23 => (S.ret []).bind fun as24 => S.ret (x23 :: as24)).bind fun as25 => S.ret (PyData.list as25)).bind fun x44 => ((((S.ret a0).bind fun x26 => (S.ret (PyData.int 1)).bind fun x27 => S.lift (oIx x26 x27)).bind fun x28 => S.lift (seqD x28)).bind fun ds36 => (S.lift (szD ds36)).bind fun _ => (S.mapM (fun d29 => S.noEx (((S.lift (un2 d29)).bind fun p30 => (S.ret p30.1).bind fun s31 => (S.ret p30.2).bind fun s33 => S.ret (s31, s33)).bind fun s35 => ((((S.ret s35.1).bind fun x38 => S.lift (oStr x38)).bind fun x39 => (S.ret (PyData.str "@")).bind fun x40 => S.lift (oAdd x39 x40)).bind fun x42 => ((S.ret s35.2).bind fun x41 => S.lift (oStr x41)).bind fun x43 => S.lift (oAdd x42 x43)))) ds36).bind fun xs37 => S.ret (PyData.list xs37)).bind fun x45 => S.lift (oAdd x44 x45)).bind fun x46 => S.lift (oJoin " " x46)))
noncomputable abbrev F__law_field_text : List Sv → M Sv := liftF (u1 T__law_field_text)
noncomputable def G__law_field_text : Rho → M Out :=
  (gSeq (gSet 1 (callV (bJoin " ") (argC (lcV false [2, 3] (seqV (bin pIx (slot 0) (con (.int 0)))) (gTp 2 (gsCons (gNm 2) (gsCons (gNm 3) gsNil))) yes (bin (pAdd false) (bin (pAdd false) (callV bStr (argC (slot 2) argN)) (con (.str ":"))) (callV bStr (argC (slot 3) argN)))) argN)))
  (gRet (callV (bJoin " ") (argC (bin (pAdd false) (lstV false (argC (bin (pAdd false) (slot 1) (con (.str ";"))) argN)) (lcV false [4, 5] (seqV (bin pIx (slot 0) (con (.int 1)))) (gTp 2 (gsCons (gNm 4) (gsCons (gNm 5) gsNil))) yes (bin (pAdd false) (bin (pAdd false) (callV bStr (argC (slot 4) argN)) (con (.str "@"))) (callV bStr (argC (slot 5) argN))))) argN))))
theorem tt__law_field_text (a0 : PyData) : Jd [some (.im a0), none, none, none, none, none] G__law_field_text (T__law_field_text a0) pR := by
  unfold T__law_field_text G__law_field_text
  exact (r_seq (s_setI 1 (e_bl1 (bl_join " ") (e_w (e_lc (u := fun d4 => ((S.lift (un2 d4)).bind fun p5 => (S.ret p5.1).bind fun s6 => (S.ret p5.2).bind fun s8 => S.ret (s6, s8))) (e' := fun (s : ((PyData) × (PyData))) => [some (.im a0), none, some (.im s.1), some (.im s.2), none, none]) [2, 3] (w_seq (e_bin op_ix' (e_slot 0 rfl) (e_w (e_con (PyData.int 0))))) rfl (fun d4 => (tc_tp2 (e1 := fun (s6 : PyData) => [some (.im a0), none, some (.im s6), none, none, none]) (e2 := fun (s6 : PyData) (s8 : PyData) => [some (.im a0), none, some (.im s6), some (.im s8), none, none]) (u1 := fun d7 => (S.ret d7)) (u2 := fun d9 => (S.ret d9)) d4 (fun d7 => (tc_nm 2 d7 rfl)) (fun s6 d9 => (tc_nm 3 d9 rfl)))) (fun s10 => (e_bin op_add' (e_bin op_add' (e_bl1 bl_str (e_w (e_slot 2 rfl))) (e_w (e_con (PyData.str ":")))) (e_w (e_bl1 bl_str (e_w (e_slot 3 rfl)))))))))) fun v20 =>
  (r_ret (e_bl1 (bl_join " ") (e_w (e_bin op_add' (e_lst (a_cons' (e_bin op_add' (e_slot 1 rfl) (e_w (e_con (PyData.str ";")))) a_nil')) (e_w (e_lc (u := fun d29 => ((S.lift (un2 d29)).bind fun p30 => (S.ret p30.1).bind fun s31 => (S.ret p30.2).bind fun s33 => S.ret (s31, s33))) (e' := fun (s : ((PyData) × (PyData))) => [some (.im a0), some (.im v20), none, none, some (.im s.1), some (.im s.2)]) [4, 5] (w_seq (e_bin op_ix' (e_slot 0 rfl) (e_w (e_con (PyData.int 1))))) rfl (fun d29 => (tc_tp2 (e1 := fun (s31 : PyData) => [some (.im a0), some (.im v20), none, none, some (.im s31), none]) (e2 := fun (s31 : PyData) (s33 : PyData) => [some (.im a0), some (.im v20), none, none, some (.im s31), some (.im s33)]) (u1 := fun d32 => (S.ret d32)) (u2 := fun d34 => (S.ret d34)) d29 (fun d32 => (tc_nm 4 d32 rfl)) (fun s31 d34 => (tc_nm 5 d34 rfl)))) (fun s35 => (e_bin op_add' (e_bin op_add' (e_bl1 bl_str (e_w (e_slot 4 rfl))) (e_w (e_con (PyData.str "@")))) (e_w (e_bl1 bl_str (e_w (e_slot 5 rfl)))))))))))))
theorem same__law_field_text (ss : List Sv) (μ : Mu) (r : Res Sv) (hs : ss.length = 1) (wf : Wf μ) (e : F__law_field_text ss μ = some r) : ∃ r', G__law_field_text (ini 6 ss) μ = some r' ∧ Agree μ.length r r' :=
  same_T (n := 1) (fun ds h => by
    obtain ⟨a0, rfl⟩ := len1 h
    exact r_e (tt__law_field_text a0)) ss μ r hs wf e
noncomputable def R_law : Rho → M Out :=
  (gSeq (gSet 2 (tupV (argC (callV bTuple (argC (bin (pMul false) (lstV false (argC (tupV (argC (con (.int 0)) (argC (bin pPow (con (.int 10)) (con (.int 6))) argN))) argN)) (con (.int 11))) argN)) (argC (bin pMulA (tupV (argC (tupV (argC (con (.int 11)) (argC (bin pPow (con (.int 10)) (con (.int 9))) argN))) (argC (tupV (argC (con (.int 0)) (argC (con (.int 0)) argN))) argN))) (con (.int 10))) argN))))
  (gSeq (gSet 3 (lstV false (argC (tupV (argC (tupV argN) (argC (tupV argN) argN))) (argC (tupV (argC (tupV argN) (argC (tupV (argC (tupV (argC (con (.int 0)) (argC (con (.int 5)) argN))) argN)) argN))) (argC (tupV (argC (tupV (argC (tupV (argC (con (.int 0)) (argC (con (.int 2)) argN))) argN)) (argC (tupV argN) argN))) (argC (slot 2) (argC (tupV (argC (tupV (argC (tupV (argC (con (.int 0)) (argC (con (.int 1)) argN))) (argC (tupV (argC (con (.int 0)) (argC (con (.int 10)) argN))) argN))) (argC (tupV (argC (tupV (argC (con (.int 2)) (argC (con (.int 0)) argN))) argN)) argN))) argN)))))))
  (gSeq (gSet 3 (bin (pAdd false) (slot 3) (lcV false [7] (rngV (con (.int 12))) (gNm 7) yes (callF F__law_state 3 (argC (slot 1) (argC (con (.int 12)) (argC (con (.int 20)) argN)))))))
  (gSeq (gSet 4 (lstV true argN))
  (gSeq (gFor (seqV (slot 3)) (gTp 2 (gsCons (gNm 5) (gsCons (gNm 6) gsNil)))
  (gSeq (gAsg (tupV (argC (callV bRepr (argC (lstV false (argC (slot 5) (argC (slot 6) argN))) argN)) (argC (callF F_field_text 2 (argC (slot 5) (argC (slot 6) argN))) argN))) (gTp 2 (gsCons (gNm 9) (gsCons (gNm 8) gsNil))))
  (gSeq (gIf (orT (notT (tst (isiV "str" (slot 8)))) (orT (tst (bin pNe (slot 8) (callF F__law_field_text 1 (argC (tupV (argC (slot 5) (argC (slot 6) argN))) argN)))) (tst (bin pNe (callF F_field_text 2 (argC (slot 5) (argC (slot 6) argN))) (slot 8)))))
  (gRet (con (.bool false)))
  gSkip)
  (gSeq (gIf (tst (bin pNe (callV bRepr (argC (lstV false (argC (slot 5) (argC (slot 6) argN))) argN)) (slot 9)))
  (gRet (con (.bool false)))
  gSkip)
  (gExpr (appV (slot 4) (slot 8)))))))
  (frzB 4 (gSeq (gFor (enuA (slot 4)) (gTp 2 (gsCons (gNm 7) (gsCons (gNm 8) gsNil)))
  (gIf (tst (bin pNe (lcV false [10] (seqV (slot 4)) (gNm 10) yes (bin pEq (slot 8) (slot 10))) (lcV false [10] (seqV (slot 3)) (gNm 10) yes (bin pEq (bin pIx (slot 3) (slot 7)) (slot 10)))))
  (gRet (con (.bool false)))
  gSkip))
  (gRet (bin pEq (callF F_field_text 2 (argC (tupV (argC (tupV (argC (con (.int 0)) (argC (con (.int 2)) argN))) (argC (tupV (argC (con (.int 1)) (argC (con (.int 3)) argN))) argN))) (argC (tupV (argC (tupV (argC (con (.int 0)) (argC (con (.int 1)) argN))) (argC (tupV (argC (con (.int 2)) (argC (con (.int 0)) argN))) argN))) argN))) (con (.str "0:2 1:3; 0@1 2@0")))))))))))
noncomputable def T_law : S PyData :=
  ((((((((((S.ret (PyData.int 0)).bind fun x5 => (((S.ret (PyData.int 10)).bind fun x1 => (S.ret (PyData.int 6)).bind fun x2 => S.lift (oPow x1 x2)).bind fun x3 => (S.ret []).bind fun as4 => S.ret (x3 :: as4)).bind fun as6 => S.ret (x5 :: as6)).bind fun as7 => S.ret (PyData.tuple as7)).bind fun x8 => (S.ret []).bind fun as9 => S.ret (x8 :: as9)).bind fun as10 => S.ret (PyData.list as10)).bind fun x11 => (S.ret (PyData.int 11)).bind fun x12 => S.lift (oMul x11 x12)).bind fun x13 => S.lift (oTuple x13)).bind fun x35 => (((((((S.ret (PyData.int 11)).bind fun x18 => (((S.ret (PyData.int 10)).bind fun x14 => (S.ret (PyData.int 9)).bind fun x15 => S.lift (oPow x14 x15)).bind fun x16 => (S.ret []).bind fun as17 => S.ret (x16 :: as17)).bind fun as19 => S.ret (x18 :: as19)).bind fun as20 => S.ret (PyData.tuple as20)).bind fun x28 => ((((S.ret (PyData.int 0)).bind fun x23 => ((S.ret (PyData.int 0)).bind fun x21 => (S.ret []).bind fun as22 => S.ret (x21 :: as22)).bind fun as24 => S.ret (x23 :: as24)).bind fun as25 => S.ret (PyData.tuple as25)).bind fun x26 => (S.ret []).bind fun as27 => S.ret (x26 :: as27)).bind fun as29 => S.ret (x28 :: as29)).bind fun as30 => S.ret (PyData.tuple as30)).bind fun x31 => (S.ret (PyData.int 10)).bind fun x32 => S.lift (oMulT x31 x32)).bind fun x33 => (S.ret []).bind fun as34 => S.ret (x33 :: as34)).bind fun as36 => S.ret (x35 :: as36)).bind fun as37 => S.ret (PyData.tuple as37)).bind fun v38 =>
  (((((((S.ret []).bind fun as39 => S.ret (PyData.tuple as39)).bind fun x43 => (((S.ret []).bind fun as40 => S.ret (PyData.tuple as40)).bind fun x41 => (S.ret []).bind fun as42 => S.ret (x41 :: as42)).bind fun as44 => S.ret (x43 :: as44)).bind fun as45 => S.ret (PyData.tuple as45)).bind fun x110 => (((((S.ret []).bind fun as46 => S.ret (PyData.tuple as46)).bind fun x57 => ((((((S.ret (PyData.int 0)).bind fun x49 => ((S.ret (PyData.int 5)).bind fun x47 => (S.ret []).bind fun as48 => S.ret (x47 :: as48)).bind fun as50 => S.ret (x49 :: as50)).bind fun as51 => S.ret (PyData.tuple as51)).bind fun x52 => (S.ret []).bind fun as53 => S.ret (x52 :: as53)).bind fun as54 => S.ret (PyData.tuple as54)).bind fun x55 => (S.ret []).bind fun as56 => S.ret (x55 :: as56)).bind fun as58 => S.ret (x57 :: as58)).bind fun as59 => S.ret (PyData.tuple as59)).bind fun x108 => ((((((((S.ret (PyData.int 0)).bind fun x62 => ((S.ret (PyData.int 2)).bind fun x60 => (S.ret []).bind fun as61 => S.ret (x60 :: as61)).bind fun as63 => S.ret (x62 :: as63)).bind fun as64 => S.ret (PyData.tuple as64)).bind fun x65 => (S.ret []).bind fun as66 => S.ret (x65 :: as66)).bind fun as67 => S.ret (PyData.tuple as67)).bind fun x71 => (((S.ret []).bind fun as68 => S.ret (PyData.tuple as68)).bind fun x69 => (S.ret []).bind fun as70 => S.ret (x69 :: as70)).bind fun as72 => S.ret (x71 :: as72)).bind fun as73 => S.ret (PyData.tuple as73)).bind fun x106 => ((S.ret v38).bind fun x104 => ((((((((S.ret (PyData.int 0)).bind fun x76 => ((S.ret (PyData.int 1)).bind fun x74 => (S.ret []).bind fun as75 => S.ret (x74 :: as75)).bind fun as77 => S.ret (x76 :: as77)).bind fun as78 => S.ret (PyData.tuple as78)).bind fun x86 => ((((S.ret (PyData.int 0)).bind fun x81 => ((S.ret (PyData.int 10)).bind fun x79 => (S.ret []).bind fun as80 => S.ret (x79 :: as80)).bind fun as82 => S.ret (x81 :: as82)).bind fun as83 => S.ret (PyData.tuple as83)).bind fun x84 => (S.ret []).bind fun as85 => S.ret (x84 :: as85)).bind fun as87 => S.ret (x86 :: as87)).bind fun as88 => S.ret (PyData.tuple as88)).bind fun x99 => ((((((S.ret (PyData.int 2)).bind fun x91 => ((S.ret (PyData.int 0)).bind fun x89 => (S.ret []).bind fun as90 => S.ret (x89 :: as90)).bind fun as92 => S.ret (x91 :: as92)).bind fun as93 => S.ret (PyData.tuple as93)).bind fun x94 => (S.ret []).bind fun as95 => S.ret (x94 :: as95)).bind fun as96 => S.ret (PyData.tuple as96)).bind fun x97 => (S.ret []).bind fun as98 => S.ret (x97 :: as98)).bind fun as100 => S.ret (x99 :: as100)).bind fun as101 => S.ret (PyData.tuple as101)).bind fun x102 => (S.ret []).bind fun as103 => S.ret (x102 :: as103)).bind fun as105 => S.ret (x104 :: as105)).bind fun as107 => S.ret (x106 :: as107)).bind fun as109 => S.ret (x108 :: as109)).bind fun as111 => S.ret (x110 :: as111)).bind fun as112 => S.ret (PyData.list as112)).bind fun v113 =>
  (((S.ret v113).bind fun x123 => (((S.ret (PyData.int 12)).bind fun x114 => S.lift (rngD x114)).bind fun ds117 => (S.lift (szD ds117)).bind fun _ => (S.mapM (fun d115 => S.noEx ((S.ret d115).bind fun s116 => (((S.ret (PyData.int 12)).bind fun x121 => ((S.ret (PyData.int 20)).bind fun x119 => (S.ret []).bind fun as120 => S.ret (x119 :: as120)).bind fun as122 => S.ret (x121 :: as122)).bind (u2 T__law_state)))) ds117).bind fun xs118 => S.ret (PyData.list xs118)).bind fun x124 => S.lift (oAdd x123 x124)).bind fun v125 =>
  ((S.ret []).bind fun v126 =>
  ((((S.ret v125).bind fun x127 => S.lift (seqD x127)).bind fun ds136 => S.foldF (fun (s128 : List PyData) d129 => ((S.lift (un2 d129)).bind fun p131 => (S.ret p131.1).bind fun s132 => (S.ret p131.2).bind fun s134 => S.ret (s132, s134)).bind fun t130 => ((((((((S.ret t130.1).bind fun x139 => ((S.ret t130.2).bind fun x137 => (S.ret []).bind fun as138 => S.ret (x137 :: as138)).bind fun as140 => S.ret (x139 :: as140)).bind fun as141 => S.ret (PyData.list as141)).bind fun x142 => S.lift (oRepr x142)).bind fun x149 => ((((S.ret t130.1).bind fun x145 => ((S.ret t130.2).bind fun x143 => (S.ret []).bind fun as144 => S.ret (x143 :: as144)).bind fun as146 => S.ret (x145 :: as146)).bind (u2 T_field_text)).bind fun x147 => (S.ret []).bind fun as148 => S.ret (x147 :: as148)).bind fun as150 => S.ret (x149 :: as150)).bind fun as151 => S.ret (PyData.tuple as151)).bind fun d152 => ((S.lift (un2 d152)).bind fun p153 => (S.ret p153.1).bind fun s154 => (S.ret p153.2).bind fun s156 => S.ret (s154, s156))).bind fun v158 =>
  ((((((S.ret v158.2).bind fun x159 => S.lift (oIsi "str" x159)).bind fun x160 => S.lift (toB x160)).bind fun z161 => S.ret (!z161)).bind fun z178 => bOr z178 (((S.ret v158.2).bind fun x169 => (((((S.ret t130.1).bind fun x164 => ((S.ret t130.2).bind fun x162 => (S.ret []).bind fun as163 => S.ret (x162 :: as163)).bind fun as165 => S.ret (x164 :: as165)).bind fun as166 => S.ret (PyData.tuple as166)).bind fun x167 => (S.ret []).bind fun as168 => S.ret (x167 :: as168)).bind (u1 T__law_field_text)).bind fun x170 => S.lift (cNe x169 x170)).bind fun z177 => bOr z177 ((((S.ret t130.1).bind fun x173 => ((S.ret t130.2).bind fun x171 => (S.ret []).bind fun as172 => S.ret (x171 :: as172)).bind fun as174 => S.ret (x173 :: as174)).bind (u2 T_field_text)).bind fun x175 => (S.ret v158.2).bind fun x176 => S.lift (cNe x175 x176)))).bind fun z179 => if z179 = true then ((S.ret (PyData.bool false)).bind fun x180 => S.ret (.rt x180)) else
  ((((((S.ret t130.1).bind fun x183 => ((S.ret t130.2).bind fun x181 => (S.ret []).bind fun as182 => S.ret (x181 :: as182)).bind fun as184 => S.ret (x183 :: as184)).bind fun as185 => S.ret (PyData.list as185)).bind fun x186 => S.lift (oRepr x186)).bind fun x187 => (S.ret v158.1).bind fun x188 => S.lift (cNe x187 x188)).bind fun z189 => if z189 = true then ((S.ret (PyData.bool false)).bind fun x190 => S.ret (.rt x190)) else
  (((S.ret v158.2).bind fun x191 => S.lift (appD s128 x191)).bind fun v192 => S.ret (.nx (v192))))))) ds136 (v126)).bind fun o193 => flR o193 fun (s194 : List PyData) =>
  ((((S.ret (PyData.list s194)).bind fun x195 => S.lift ((seqD x195).map enuD)).bind fun ds204 => S.foldF (fun (s196 : PUnit) d197 => ((S.lift (un2 d197)).bind fun p199 => (S.ret p199.1).bind fun s200 => (S.ret p199.2).bind fun s202 => S.ret (s200, s202)).bind fun t198 => (((((S.ret (PyData.list s194)).bind fun x205 => S.lift (seqD x205)).bind fun ds208 => (S.lift (szD ds208)).bind fun _ => (S.mapM (fun d206 => S.noEx ((S.ret d206).bind fun s207 => ((S.ret t198.2).bind fun x210 => (S.ret s207).bind fun x211 => S.lift (asB2 (cEq x210 x211))))) ds208).bind fun xs209 => S.ret (PyData.list xs209)).bind fun x221 => (((S.ret v125).bind fun x212 => S.lift (seqD x212)).bind fun ds215 => (S.lift (szD ds215)).bind fun _ => (S.mapM (fun d213 => S.noEx ((S.ret d213).bind fun s214 => (((S.ret v125).bind fun x217 => (S.ret t198.1).bind fun x218 => S.lift (oIx x217 x218)).bind fun x219 => (S.ret s214).bind fun x220 => S.lift (asB2 (cEq x219 x220))))) ds215).bind fun xs216 => S.ret (PyData.list xs216)).bind fun x222 => S.lift (cNe x221 x222)).bind fun z223 => if z223 = true then ((S.ret (PyData.bool false)).bind fun x224 => S.ret (.rt x224)) else (S.ret (.nx PUnit.unit)))) ds204 PUnit.unit).bind fun o225 => flR o225 fun (s226 : PUnit) =>
  ((((((((S.ret (PyData.int 0)).bind fun x229 => ((S.ret (PyData.int 2)).bind fun x227 => (S.ret []).bind fun as228 => S.ret (x227 :: as228)).bind fun as230 => S.ret (x229 :: as230)).bind fun as231 => S.ret (PyData.tuple as231)).bind fun x239 => ((((S.ret (PyData.int 1)).bind fun x234 => ((S.ret (PyData.int 3)).bind fun x232 => (S.ret []).bind fun as233 => S.ret (x232 :: as233)).bind fun as235 => S.ret (x234 :: as235)).bind fun as236 => S.ret (PyData.tuple as236)).bind fun x237 => (S.ret []).bind fun as238 => S.ret (x237 :: as238)).bind fun as240 => S.ret (x239 :: as240)).bind fun as241 => S.ret (PyData.tuple as241)).bind fun x259 => ((((((S.ret (PyData.int 0)).bind fun x244 => ((S.ret (PyData.int 1)).bind fun x242 => (S.ret []).bind fun as243 => S.ret (x242 :: as243)).bind fun as245 => S.ret (x244 :: as245)).bind fun as246 => S.ret (PyData.tuple as246)).bind fun x254 => ((((S.ret (PyData.int 2)).bind fun x249 => ((S.ret (PyData.int 0)).bind fun x247 => (S.ret []).bind fun as248 => S.ret (x247 :: as248)).bind fun as250 => S.ret (x249 :: as250)).bind fun as251 => S.ret (PyData.tuple as251)).bind fun x252 => (S.ret []).bind fun as253 => S.ret (x252 :: as253)).bind fun as255 => S.ret (x254 :: as255)).bind fun as256 => S.ret (PyData.tuple as256)).bind fun x257 => (S.ret []).bind fun as258 => S.ret (x257 :: as258)).bind fun as260 => S.ret (x259 :: as260)).bind (u2 T_field_text)).bind fun x261 => (S.ret (PyData.str "0:2 1:3; 0@1 2@0")).bind fun x262 => S.lift (asB2 (cEq x261 x262)))))))))
theorem tt_law : Jd [none, some .dk, none, none, none, none, none, none, none, none, none] R_law T_law pR := by
  unfold T_law R_law
  exact (r_seq (s_setI 2 (e_tup (a_cons' (e_bl1 bl_tuple (e_w (e_binD op_mul' (e_lst (a_cons' (e_tup (a_cons' (e_con (PyData.int 0)) (a_cons' (e_bin op_pow' (e_con (PyData.int 10)) (e_w (e_con (PyData.int 6)))) a_nil'))) a_nil')) (e_con (PyData.int 11))))) (a_cons' (e_bin op_mulT' (e_tup (a_cons' (e_tup (a_cons' (e_con (PyData.int 11)) (a_cons' (e_bin op_pow' (e_con (PyData.int 10)) (e_w (e_con (PyData.int 9)))) a_nil'))) (a_cons' (e_tup (a_cons' (e_con (PyData.int 0)) (a_cons' (e_con (PyData.int 0)) a_nil'))) a_nil'))) (e_w (e_con (PyData.int 10)))) a_nil')))) fun v38 =>
  (r_seq (s_setI 3 (e_lst (a_cons' (e_tup (a_cons' (e_tup a_nil') (a_cons' (e_tup a_nil') a_nil'))) (a_cons' (e_tup (a_cons' (e_tup a_nil') (a_cons' (e_tup (a_cons' (e_tup (a_cons' (e_con (PyData.int 0)) (a_cons' (e_con (PyData.int 5)) a_nil'))) a_nil')) a_nil'))) (a_cons' (e_tup (a_cons' (e_tup (a_cons' (e_tup (a_cons' (e_con (PyData.int 0)) (a_cons' (e_con (PyData.int 2)) a_nil'))) a_nil')) (a_cons' (e_tup a_nil') a_nil'))) (a_cons' (e_slot 2 rfl) (a_cons' (e_tup (a_cons' (e_tup (a_cons' (e_tup (a_cons' (e_con (PyData.int 0)) (a_cons' (e_con (PyData.int 1)) a_nil'))) (a_cons' (e_tup (a_cons' (e_con (PyData.int 0)) (a_cons' (e_con (PyData.int 10)) a_nil'))) a_nil'))) (a_cons' (e_tup (a_cons' (e_tup (a_cons' (e_con (PyData.int 2)) (a_cons' (e_con (PyData.int 0)) a_nil'))) a_nil')) a_nil'))) a_nil'))))))) fun v113 =>
  (r_seq (s_setI 3 (e_bin op_add' (e_slot 3 rfl) (e_w (e_lc (u := fun d115 => (S.ret d115)) (e' := fun (s : PyData) => [none, some .dk, some (.im v38), some (.im v113), none, none, none, some (.im s), none, none, none]) [7] (w_rng (e_con (PyData.int 12))) rfl (fun d115 => (tc_nm 7 d115 rfl)) (fun s116 => (e_callD 1 rfl (a_cons' (e_con (PyData.int 12)) (a_cons' (e_con (PyData.int 20)) a_nil')))))))) fun v125 =>
  (r_seq (s_setM 4 (m_lst a_nil')) fun v126 =>
  (r_flow (s_forF (h := fun (s : List PyData) => [none, some .dk, some (.im v38), some (.im v125), some (.mt s), none, none, none, none, none, none]) (v126) (w_seq (e_slot 3 rfl)) (.drop (.keep (.keep (.keep (.keep (.drop (.drop (.drop (.drop (.drop (.drop .nil))))))))))) (fun s128 d129 => b_tgF (u := fun d129 => ((S.lift (un2 d129)).bind fun p131 => (S.ret p131.1).bind fun s132 => (S.ret p131.2).bind fun s134 => S.ret (s132, s134))) (e' := fun (t : ((PyData) × (PyData))) => [none, some .dk, some (.im v38), some (.im v125), some (.mt s128), some (.im t.1), some (.im t.2), none, none, none, none]) d129 (tg_tp2 (e1 := fun (s132 : PyData) => [none, some .dk, some (.im v38), some (.im v125), some (.mt s128), some (.im s132), none, none, none, none, none]) (e2 := fun (s132 : PyData) (s134 : PyData) => [none, some .dk, some (.im v38), some (.im v125), some (.mt s128), some (.im s132), some (.im s134), none, none, none, none]) (u1 := fun d133 => (S.ret d133)) (u2 := fun d135 => (S.ret d135)) d129 (fun d133 => (tg_nm 5 d133)) (fun s132 d135 => (tg_nm 6 d135))) fun t130 => (f_seq (s_asg' (u := fun d152 => ((S.lift (un2 d152)).bind fun p153 => (S.ret p153.1).bind fun s154 => (S.ret p153.2).bind fun s156 => S.ret (s154, s156))) (e' := fun (s : ((PyData) × (PyData))) => [none, some .dk, some (.im v38), some (.im v125), some (.mt s128), some (.im t130.1), some (.im t130.2), none, some (.im s.2), some (.im s.1), none]) (e_tup (a_cons' (e_bl1 bl_repr (e_w (e_lst (a_cons' (e_slot 5 rfl) (a_cons' (e_slot 6 rfl) a_nil'))))) (a_cons' (e_call (a_cons' (e_slot 5 rfl) (a_cons' (e_slot 6 rfl) a_nil'))) a_nil'))) fun d152 => (tg_tp2 (e1 := fun (s154 : PyData) => [none, some .dk, some (.im v38), some (.im v125), some (.mt s128), some (.im t130.1), some (.im t130.2), none, none, some (.im s154), none]) (e2 := fun (s154 : PyData) (s156 : PyData) => [none, some .dk, some (.im v38), some (.im v125), some (.mt s128), some (.im t130.1), some (.im t130.2), none, some (.im s156), some (.im s154), none]) (u1 := fun d155 => (S.ret d155)) (u2 := fun d157 => (S.ret d157)) d152 (fun d155 => (tg_nm 9 d155)) (fun s154 d157 => (tg_nm 8 d157)))) fun v158 =>
  (f_if (u_or (u_not (u_val (e_isi "str" (e_slot 8 rfl)))) (u_or (u_bin op_eqn' (e_slot 8 rfl) (e_w (e_call (a_cons' (e_tup (a_cons' (e_slot 5 rfl) (a_cons' (e_slot 6 rfl) a_nil'))) a_nil')))) (u_bin op_eqn' (e_call (a_cons' (e_slot 5 rfl) (a_cons' (e_slot 6 rfl) a_nil'))) (e_w (e_slot 8 rfl))))) (f_ret (e_con (PyData.bool false)))
  (f_if (u_bin op_eqn' (e_bl1 bl_repr (e_w (e_lst (a_cons' (e_slot 5 rfl) (a_cons' (e_slot 6 rfl) a_nil'))))) (e_w (e_slot 9 rfl))) (f_ret (e_con (PyData.bool false)))
  (f_nx (fun (v192 : List PyData) => (v192)) (s_app 4 rfl (e_slot 8 rfl) rfl) fun v192 => (.drop (.keep (.keep (.keep (.keep (.drop (.drop (.drop (.drop (.drop (.drop .nil))))))))))))))))) fun s194 =>
  (j_frz 4 rfl <| (r_flow (s_forF (h := fun (s : PUnit) => [none, some .dk, some (.im v38), some (.im v125), some (.im (PyData.list s194)), none, none, none, none, none, none]) PUnit.unit (w_enA (e_slot 4 rfl)) (.drop (.keep (.keep (.keep (.keep (.drop (.drop (.drop (.drop (.drop (.drop .nil))))))))))) (fun s196 d197 => b_tgF (u := fun d197 => ((S.lift (un2 d197)).bind fun p199 => (S.ret p199.1).bind fun s200 => (S.ret p199.2).bind fun s202 => S.ret (s200, s202))) (e' := fun (t : ((PyData) × (PyData))) => [none, some .dk, some (.im v38), some (.im v125), some (.im (PyData.list s194)), none, none, some (.im t.1), some (.im t.2), none, none]) d197 (tg_tp2 (e1 := fun (s200 : PyData) => [none, some .dk, some (.im v38), some (.im v125), some (.im (PyData.list s194)), none, none, some (.im s200), none, none, none]) (e2 := fun (s200 : PyData) (s202 : PyData) => [none, some .dk, some (.im v38), some (.im v125), some (.im (PyData.list s194)), none, none, some (.im s200), some (.im s202), none, none]) (u1 := fun d201 => (S.ret d201)) (u2 := fun d203 => (S.ret d203)) d197 (fun d201 => (tg_nm 7 d201)) (fun s200 d203 => (tg_nm 8 d203))) fun t198 => (q_if (u_bin op_eqn' (e_lc (u := fun d206 => (S.ret d206)) (e' := fun (s : PyData) => [none, some .dk, some (.im v38), some (.im v125), some (.im (PyData.list s194)), none, none, some (.im t198.1), some (.im t198.2), none, some (.im s)]) [10] (w_seq (e_slot 4 rfl)) rfl (fun d206 => (tc_nm 10 d206 rfl)) (fun s207 => (e_binB op_eqn' (e_slot 8 rfl) (e_w (e_slot 10 rfl))))) (e_w (e_lc (u := fun d213 => (S.ret d213)) (e' := fun (s : PyData) => [none, some .dk, some (.im v38), some (.im v125), some (.im (PyData.list s194)), none, none, some (.im t198.1), some (.im t198.2), none, some (.im s)]) [10] (w_seq (e_slot 3 rfl)) rfl (fun d213 => (tc_nm 10 d213 rfl)) (fun s214 => (e_binB op_eqn' (e_bin op_ix' (e_slot 3 rfl) (e_w (e_slot 7 rfl))) (e_w (e_slot 10 rfl))))))) (f_ret (e_con (PyData.bool false))) (f_skip PUnit.unit (.drop (.keep (.keep (.keep (.keep (.drop (.drop (.drop (.drop (.drop (.drop .nil))))))))))))))) fun s226 =>
  (r_ret (e_binB op_eqn' (e_call (a_cons' (e_tup (a_cons' (e_tup (a_cons' (e_con (PyData.int 0)) (a_cons' (e_con (PyData.int 2)) a_nil'))) (a_cons' (e_tup (a_cons' (e_con (PyData.int 1)) (a_cons' (e_con (PyData.int 3)) a_nil'))) a_nil'))) (a_cons' (e_tup (a_cons' (e_tup (a_cons' (e_con (PyData.int 0)) (a_cons' (e_con (PyData.int 1)) a_nil'))) (a_cons' (e_tup (a_cons' (e_con (PyData.int 2)) (a_cons' (e_con (PyData.int 0)) a_nil'))) a_nil'))) a_nil'))) (e_w (e_con (PyData.str "0:2 1:3; 0@1 2@0"))))))))))))
end Pf

set_option maxHeartbeats 1000000
namespace Pf
open PySem PySem.Spec PyProof.Rows L2
/-! ### distances by relaxing -/
section
variable {rows : List (Int × Int)} (ok : TreeOk rows)
include ok
/-- the last step of a way -/
theorem way_pred : ∀ (n a b : Nat), a + b < n → a ≤ rows.length → b ≤ rows.length → a ≠ b → ∃ u, u ≤ max a b ∧ ((0 < b ∧ u = par rows b ∧ dist rows a b = dist rows a u + lnR rows b) ∨ (0 < u ∧ b = par rows u ∧ dist rows a b = dist rows a u + lnR rows u)) ∧ (way rows a b).length = (way rows a u).length + 1 := by
  intro n
  induction n with
  | zero => intro a b h; omega
  | succ n ih =>
    intro a b h ha hb hne
    by_cases l : a < b
    · obtain ⟨r, _, _, _, hp, _⟩ := row_of ok (m := b) (by omega) hb
      refine ⟨par rows b, by omega, .inl ⟨by omega, rfl, dist_lt ok l hb⟩, ?_⟩
      rw [way_lt ok l hb, List.length_append, List.length_singleton]
    · have l : b < a := by omega
      obtain ⟨r, _, _, _, hp, _⟩ := row_of ok (m := a) (by omega) ha
      by_cases e : par rows a = b
      · refine ⟨a, by omega, .inr ⟨by omega, e.symm, ?_⟩, ?_⟩
        · rw [dist_gt ok l ha, e, dist_eq ok, dist_eq ok]
          omega
        · rw [way_gt ok l ha, e, way_eq ok, way_eq ok]
          rfl
      · obtain ⟨u, hu, hs, hl⟩ := ih (par rows a) b (by omega) (by omega) hb e
        have hua : u < a := by omega
        refine ⟨u, by omega, ?_, ?_⟩
        · rw [dist_gt ok l ha, dist_gt ok hua ha]
          rcases hs with ⟨h1, h2, h3⟩ | ⟨h1, h2, h3⟩
          · exact .inl ⟨h1, h2, by omega⟩
          · exact .inr ⟨h1, h2, by omega⟩
        · rw [way_gt ok l ha, way_gt ok hua ha, List.length_cons, List.length_cons, hl]
theorem way_short : ∀ (n a b : Nat), a + b < n → a ≤ rows.length → b ≤ rows.length → (way rows a b).length ≤ max a b + 1 := by
  intro n
  induction n with
  | zero => intro a b h; omega
  | succ n ih =>
    intro a b h ha hb
    rcases Nat.lt_trichotomy a b with l | l | l
    · obtain ⟨r, _, _, _, hp, _⟩ := row_of ok (m := b) (by omega) hb
      have := ih a (par rows b) (by omega) ha (by omega)
      rw [way_lt ok l hb, List.length_append, List.length_singleton]
      omega
    · subst l
      rw [way_eq ok]
      simp
    · obtain ⟨r, _, _, _, hp, _⟩ := row_of ok (m := a) (by omega) ha
      have := ih (par rows a) b (by omega) (by omega) hb
      rw [way_gt ok l ha, List.length_cons]
      omega
theorem way_pos {a b : Nat} (ha : a ≤ rows.length) (hb : b ≤ rows.length) : 1 ≤ (way rows a b).length := by
  have := (way_len ok _ a b (Nat.lt_succ_self _) ha hb).2.1
  cases e : way rows a b with
  | nil =>
    rw [e] at this
    cases this
  | cons x r => simp
/-- a row joins marks whose distances differ by its length -/
theorem dist_edge : ∀ (n a b : Nat), a + b < n → a ≤ rows.length → b ≤ rows.length → 0 < b → dist rows a b = dist rows a (par rows b) + lnR rows b ∨ dist rows a (par rows b) = dist rows a b + lnR rows b := by
  intro n
  induction n with
  | zero => intro a b h; omega
  | succ n ih =>
    intro a b h ha hb h0
    obtain ⟨r, _, _, _, hp, _⟩ := row_of ok (m := b) h0 hb
    rcases Nat.lt_trichotomy a b with l | l | l
    · exact .inl (dist_lt ok l hb)
    · subst l
      right
      rw [dist_gt ok hp ha, dist_eq ok, dist_eq ok]
      omega
    · obtain ⟨r, _, _, _, hq, _⟩ := row_of ok (m := a) (by omega) ha
      rw [dist_gt ok l ha, dist_gt ok (show par rows b < a by omega) ha]
      rcases ih (par rows a) b (by omega) (by omega) hb h0 with e | e
      · left; omega
      · right; omega
theorem dist_edge_le {a b : Nat} (ha : a ≤ rows.length) (hb : b ≤ rows.length) (h0 : 0 < b) : dist rows a b ≤ dist rows a (par rows b) + lnR rows b ∧ dist rows a (par rows b) ≤ dist rows a b + lnR rows b := by
  obtain ⟨r, _, _, _, hp, h1, _⟩ := row_of ok (m := b) h0 hb
  rcases dist_edge ok _ a b (Nat.lt_succ_self _) ha hb h0 with e | e
  · omega
  · omega
/-- what a sweep over all rows does -/
structure Swept (a : Nat) (d d' : Nat → Int) : Prop where
  lo : ∀ v, v ≤ rows.length → dist rows a v ≤ d' v
  le : ∀ v, v ≤ rows.length → d' v ≤ d v
  down : ∀ v, 0 < v → v ≤ rows.length → d' v ≤ d (par rows v) + lnR rows v
  up : ∀ v, 0 < v → v ≤ rows.length → d' (par rows v) ≤ d v + lnR rows v
/-- after so many sweeps the marks so far away are right -/
def Near (a t : Nat) (d : Nat → Int) : Prop := (∀ v, v ≤ rows.length → dist rows a v ≤ d v) ∧ ∀ v, v ≤ rows.length → (way rows a v).length ≤ t + 1 → d v = dist rows a v
theorem near_next {a t : Nat} (ha : a ≤ rows.length) {d d' : Nat → Int} (h : Near (rows := rows) a t d) (s : Swept (rows := rows) a d d') : Near (rows := rows) a (t + 1) d' := by
  refine ⟨s.lo, fun v hv hw => ?_⟩
  have h1 := s.lo v hv
  refine Int.le_antisymm ?_ h1
  by_cases e : a = v
  · subst e
    have := h.2 a ha (by rw [way_eq ok]; simp)
    have := s.le a ha
    omega
  · obtain ⟨u, hu, hs, hl⟩ := way_pred ok _ a v (Nat.lt_succ_self _) ha hv e
    have hun : u ≤ rows.length := by omega
    have hd := h.2 u hun (by omega)
    rcases hs with ⟨z1, z2, z3⟩ | ⟨z1, z2, z3⟩
    · have := s.down v z1 hv
      rw [← z2, hd] at this
      omega
    · have := s.up u z1 hun
      rw [← z2, hd] at this
      omega
theorem near_all {a : Nat} (ha : a ≤ rows.length) {d : Nat → Int} (h : Near (rows := rows) a rows.length d) {v : Nat} (hv : v ≤ rows.length) : d v = dist rows a v := by
  have := way_short ok _ a v (Nat.lt_succ_self _) ha hv
  exact h.2 v hv (by omega)
end
/-! ### rows of numbers as functions -/
def arr (n : Nat) (d : Nat → Int) : List PyData := (List.range n).map fun v => .int (d v)
def upF (d : Nat → Int) (i : Nat) (x : Int) : Nat → Int := fun v => if v = i then x else d v
theorem upF_self (d : Nat → Int) (i : Nat) (x : Int) : upF d i x i = x := if_pos rfl
theorem upF_ne {d : Nat → Int} {i j : Nat} {x : Int} (h : j ≠ i) : upF d i x j = d j := if_neg h
theorem arr_len (n : Nat) (d : Nat → Int) : (arr n d).length = n := by
  unfold arr
  rw [List.length_map, List.length_range]
theorem oIx_arr {n i : Nat} {d : Nat → Int} (h : i < n) : oIx (.list (arr n d)) (.int (i : Int)) = some (.int (d i)) := atI_range (fun v => PyData.int (d v)) h
theorem arr_set {n i : Nat} {d : Nat → Int} (x : Int) : (arr n d).set i (.int x) = arr n (upF d i x) := by
  refine List.ext_getElem? fun j => ?_
  unfold arr
  by_cases hj : j < n
  · by_cases e : i = j
    · subst e
      rw [List.getElem?_set_self (by simpa using hj), List.getElem?_map, List.getElem?_range hj]
      show _ = some (PyData.int (upF d i x i))
      rw [upF_self]
    · rw [List.getElem?_set_ne e, List.getElem?_map, List.getElem?_map, List.getElem?_range hj]
      show some (PyData.int (d j)) = some (PyData.int (upF d i x j))
      rw [upF_ne fun z => e z.symm]
  · rw [List.getElem?_eq_none (by simpa using hj), List.getElem?_eq_none (by simpa using hj)]
theorem stI_arr {n i : Nat} {d : Nat → Int} {x : Int} (h : i < n) : stI (arr n d) (.int (i : Int)) (.int x) = some (arr n (upF d i x)) := by
  show (ixN (arr n d).length (i : Int)).map _ = _
  rw [arr_len, ixN_lt (by omega) (by omega)]
  show some ((arr n d).set (i : Int).toNat (.int x)) = _
  rw [Int.toNat_natCast, arr_set]
theorem oMin2_i (i j : Int) : oMin2 (.int i) (.int j) = some (.int (min i j)) := by
  show some (PyData.int (if j < i then j else i)) = _
  have : (if j < i then j else i) = min i j := by split <;> omega
  rw [this]
theorem oMax2_i (i j : Int) : oMax2 (.int i) (.int j) = some (.int (max i j)) := by
  show some (PyData.int (if j > i then j else i)) = _
  have : (if j > i then j else i) = max i j := by split <;> omega
  rw [this]
theorem arr_congr {n : Nat} {d e : Nat → Int} (h : ∀ v, v < n → d v = e v) : arr n d = arr n e := by
  unfold arr
  refine List.map_congr_left fun v hv => ?_
  rw [h v (List.mem_range.mp hv)]
theorem enu_rows (rows : List (Int × Int)) : (seqD (treeD rows)).map enuD = some ((List.range rows.length).map fun k => .tuple [mkD k, rowD ((rows[k]?).getD (0, 0))]) := by
  show some (enuD (rows.map rowD)) = _
  congr 1
  refine List.ext_getElem? fun i => ?_
  by_cases hi : i < rows.length
  · unfold enuD zipD
    rw [List.getElem?_zipWith, fromTo_map, List.length_map, List.getElem?_map, List.getElem?_map, List.getElem?_map, List.getElem?_range hi]
    rw [List.getElem?_eq_getElem hi]
    show some (PyData.tuple [mkD i, rowD rows[i]]) = some (PyData.tuple [mkD i, rowD ((rows[i]?).getD (0, 0))])
    rw [List.getElem?_eq_getElem hi]
    rfl
  · rw [List.getElem?_eq_none (by rw [enu_len, List.length_map]; omega), List.getElem?_eq_none (by simpa using hi)]
end Pf

set_option maxHeartbeats 1000000
namespace Pf
open PySem PySem.Spec PyProof.Rows L2
theorem rngI {i : Int} (h0 : 0 ≤ i) (h1 : i ≤ 1000000000) : rngD (.int i) = some ((List.range i.toNat).map mkD) := by
  have := rngD_ok (n := i.toNat) (by omega)
  rw [fromTo_map] at this
  rw [show ((i.toNat : Nat) : Int) = i by omega] at this
  exact this
theorem range_at {n i : Nat} {d : PyData} (h : ((List.range n).map mkD)[i]? = some d) : i < n ∧ d = mkD i := by
  rw [List.getElem?_map] at h
  by_cases hi : i < n
  · rw [List.getElem?_range hi] at h
    exact ⟨hi, (Option.some.inj h).symm⟩
  · rw [List.getElem?_eq_none (by simpa using hi)] at h
    cases h
theorem rep_flat {α : Type} (x : α) : ∀ n : Nat, (List.replicate n [x]).flatten = List.replicate n x
  | 0 => rfl
  | n + 1 => by
    rw [List.replicate_succ, List.flatten_cons, rep_flat x n]
    rfl
theorem oMulM_of {a b : PyData} {ds : List PyData} (h : oMul a b = some (.list ds)) : oMulM a b = some ds := by
  unfold oMulM
  rw [h]
theorem oMulM_rep (x : PyData) {n : Nat} (h : n ≤ 1000) : oMulM (.list [x]) (.int (n : Int)) = some (List.replicate n x) := by
  have h1 : small (2 * (n : Int)) = true := Bool.and_eq_true_iff.mpr ⟨decide_eq_true (show -(2 ^ 64) < 2 * (n : Int) by omega), decide_eq_true (show 2 * (n : Int) < 2 ^ 64 by omega)⟩
  have h2 : szOk ([x].length * (n : Int).toNat) = true := decide_eq_true (by rw [Int.toNat_natCast, List.length_singleton]; omega)
  have e : oMul (.list [x]) (.int (n : Int)) = some (.list (List.replicate n x)) := by
    unfold oMul
    dsimp only
    rw [h1, h2, Bool.and_self, if_pos rfl, Int.toNat_natCast, rep_flat]
  exact oMulM_of e
theorem rep_arr (n : Nat) (x : Int) : List.replicate n (PyData.int x) = arr n fun _ => x := by
  unfold arr
  refine List.ext_getElem? fun i => ?_
  by_cases h : i < n
  · rw [List.getElem?_replicate, if_pos h, List.getElem?_map, List.getElem?_range h]
    rfl
  · rw [List.getElem?_eq_none (by simpa using h), List.getElem?_eq_none (by simpa using h)]
theorem oLen_tree (rows : List (Int × Int)) : oLen (treeD rows) = some (.int (rows.length : Nat)) := by
  show some (PyData.int ((rows.map rowD).length : Nat)) = _
  rw [List.length_map]
theorem foldl_best {f : Int → Int → Int} {R : Int → Int → Prop} (rf : ∀ x, R x x) (tr : ∀ x y z, R x y → R y z → R x z) (hf : ∀ x y, (f x y = x ∨ f x y = y) ∧ R (f x y) x ∧ R (f x y) y) : ∀ (r : List Int) (n : Int), (r.foldl f n ∈ n :: r) ∧ ∀ x ∈ n :: r, R (r.foldl f n) x
  | [], n => ⟨List.mem_cons_self, fun x hx => by
    rw [List.mem_singleton.mp hx]
    exact rf _⟩
  | y :: r, n => by
    obtain ⟨h1, h2⟩ := foldl_best rf tr hf r (f n y)
    obtain ⟨c, a, b⟩ := hf n y
    refine ⟨?_, fun x hx => ?_⟩
    · rw [List.foldl_cons]
      rcases List.mem_cons.mp h1 with h | h
      · rw [h]
        rcases c with c | c
        · rw [c]
          exact List.mem_cons_self
        · rw [c]
          exact List.mem_cons_of_mem _ List.mem_cons_self
      · exact List.mem_cons_of_mem _ (List.mem_cons_of_mem _ h)
    · rw [List.foldl_cons]
      have h0 := h2 (f n y) List.mem_cons_self
      rcases List.mem_cons.mp hx with rfl | hx
      · exact tr _ _ _ h0 a
      · rcases List.mem_cons.mp hx with rfl | hx
        · exact tr _ _ _ h0 b
        · exact h2 x (List.mem_cons_of_mem _ hx)
def minL : List Int → Int
  | [] => 0
  | n :: r => r.foldl min n
def maxL : List Int → Int
  | [] => 0
  | n :: r => r.foldl max n
theorem minL_spec {xs : List Int} (h : xs ≠ []) : minL xs ∈ xs ∧ ∀ x ∈ xs, minL xs ≤ x := by
  cases xs with
  | nil => exact absurd rfl h
  | cons n r => exact foldl_best (R := fun x y => x ≤ y) (fun x => Int.le_refl x) (fun x y z => Int.le_trans) (fun x y => ⟨by omega, by omega, by omega⟩) r n
theorem maxL_spec {xs : List Int} (h : xs ≠ []) : maxL xs ∈ xs ∧ ∀ x ∈ xs, x ≤ maxL xs := by
  cases xs with
  | nil => exact absurd rfl h
  | cons n r => exact foldl_best (R := fun x y => y ≤ x) (fun x => Int.le_refl x) (fun x y z h1 h2 => Int.le_trans h2 h1) (fun x y => ⟨by omega, by omega, by omega⟩) r n
theorem minL_is {xs : List Int} {m : Int} (h : m ∈ xs) (l : ∀ x ∈ xs, m ≤ x) : minL xs = m := by
  have hne : xs ≠ [] := fun z => by rw [z] at h; cases h
  obtain ⟨h1, h2⟩ := minL_spec hne
  exact Int.le_antisymm (h2 m h) (l _ h1)
theorem maxL_is {xs : List Int} {m : Int} (h : m ∈ xs) (l : ∀ x ∈ xs, x ≤ m) : maxL xs = m := by
  have hne : xs ≠ [] := fun z => by rw [z] at h; cases h
  obtain ⟨h1, h2⟩ := maxL_spec hne
  exact Int.le_antisymm (l _ h1) (h2 m h)
theorem oBest_min {xs : List Int} (h : xs ≠ []) : oBest min (.list (xs.map .int)) = some (.int (minL xs)) := by
  cases xs with
  | nil => exact absurd rfl h
  | cons n r =>
    unfold oBest
    dsimp only
    rw [ints_map]
    rfl
theorem oBest_max {xs : List Int} (h : xs ≠ []) : oBest max (.list (xs.map .int)) = some (.int (maxL xs)) := by
  cases xs with
  | nil => exact absurd rfl h
  | cons n r =>
    unfold oBest
    dsimp only
    rw [ints_map]
    rfl
theorem seqD_l (ds : List PyData) : seqD (.list ds) = some ds := rfl
theorem seqD_t (ds : List PyData) : seqD (.tuple ds) = some ds := rfl
theorem oLen_l (ds : List PyData) : oLen (.list ds) = some (.int (ds.length : Nat)) := rfl
theorem oLen_t (ds : List PyData) : oLen (.tuple ds) = some (.int (ds.length : Nat)) := rfl
theorem enu_arr (n : Nat) (d : Nat → Int) : enuD (arr n d) = (List.range n).map fun k => .tuple [mkD k, .int (d k)] := by
  refine List.ext_getElem? fun i => ?_
  by_cases hi : i < n
  · unfold enuD zipD arr
    rw [List.getElem?_zipWith, fromTo_map, List.length_map, List.length_range, List.getElem?_map, List.getElem?_map, List.getElem?_map, List.getElem?_range hi]
    rfl
  · rw [List.getElem?_eq_none (by rw [enu_len, arr_len]; omega), List.getElem?_eq_none (by simpa using hi)]
theorem range_snoc {α : Type} (f : Nat → α) (i : Nat) : (List.range i).map f ++ [f i] = (List.range (i + 1)).map f := by
  rw [List.range_succ, List.map_append]
  rfl
def tAt (ts : List Int) (i : Nat) : Int := (ts[i]?).getD 0
theorem oIx_ints {xs : List Int} {i : Nat} (h : i < xs.length) : oIx (.list (xs.map .int)) (.int (i : Int)) = some (.int (tAt xs i)) := oIx_l (f := PyData.int) (by unfold tAt; rw [List.getElem?_eq_getElem h]; rfl)
theorem oIx_tab {xs : List Int} {i : Nat} (h : i < xs.length) : oIx (tabD xs) (.int (i : Int)) = some (.int (tAt xs i)) := oIx_t (f := PyData.int) (by unfold tAt; rw [List.getElem?_eq_getElem h]; rfl)
theorem tAt_mem {xs : List Int} {i : Nat} (h : i < xs.length) : tAt xs i ∈ xs := by
  unfold tAt
  rw [List.getElem?_eq_getElem h]
  exact List.getElem_mem h
/-- drawn numbers -/
theorem ints_of {lo hi : Int} {ds : List PyData} (h : ∀ (i : Nat) (y : PyData), ds[i]? = some y → ∃ r : Int, y = .int r ∧ lo ≤ r ∧ r < hi) : ∃ xs : List Int, ds = xs.map .int ∧ ∀ x ∈ xs, lo ≤ x ∧ x < hi := by
  induction ds with
  | nil => exact ⟨[], rfl, fun x hx => nomatch hx⟩
  | cons d ds ih =>
    obtain ⟨xs, e, hx⟩ := ih fun i y hy => h (i + 1) y (by simpa using hy)
    obtain ⟨r, rfl, r0, r1⟩ := h 0 d rfl
    refine ⟨r :: xs, by rw [e]; rfl, fun x hx' => ?_⟩
    rcases List.mem_cons.mp hx' with rfl | hx'
    · exact ⟨r0, r1⟩
    · exact hx x hx'
end Pf

set_option maxHeartbeats 1000000
namespace Pf
open PySem PySem.Spec PyProof.Rows L2
open _root_.TL
/-! ### texts of fields: one text, one state -/
def numS (n : Nat) : Str := Str.ofString (toString ((n : Nat) : Int))
def pairT (c : Str) (x : Nat × Nat) : Str := numS x.1 ++ c ++ numS x.2
def fieldT (r p : List (Nat × Nat)) : Str := Txt.join " " ((Txt.join " " (r.map (pairT ":")) ++ ";") :: p.map (pairT "@"))
def cP (s : Nat) (x : Nat × Nat) : List Nat := numL x.1 ++ s :: numL x.2
def Dg (c : Nat) : Prop := 48 ≤ c ∧ c ≤ 57
def Stop (k : List Nat) : Prop := ∀ c k0, k = c :: k0 → ¬ Dg c
theorem num_dg (n : Nat) : ∀ c ∈ numL n, Dg c := fun c hc => by
  have := numL_digits n c hc
  exact ⟨by omega, by omega⟩
theorem dig_cut : ∀ {a b k l : List Nat}, (∀ c ∈ a, Dg c) → (∀ c ∈ b, Dg c) → Stop k → Stop l → a ++ k = b ++ l → a = b ∧ k = l
  | [], [], _, _, _, _, _, _, e => ⟨rfl, e⟩
  | [], d :: b, k, l, _, hb, hk, _, e => absurd (hb d List.mem_cons_self) (hk d (b ++ l) e)
  | d :: a, [], k, l, ha, _, _, hl, e => absurd (ha d List.mem_cons_self) (hl d (a ++ k) e.symm)
  | c :: a, d :: b, k, l, ha, hb, hk, hl, e => by
    injection e with e1 e2
    obtain ⟨h1, h2⟩ := dig_cut (fun x hx => ha x (List.mem_cons_of_mem _ hx)) (fun x hx => hb x (List.mem_cons_of_mem _ hx)) hk hl e2
    exact ⟨by rw [e1, h1], h2⟩
theorem stop_c {c : Nat} {k : List Nat} (h : ¬ Dg c) : Stop (c :: k) := fun d k0 e => by
  injection e with e1 _
  rw [← e1]
  exact h
theorem stop_nil : Stop [] := fun _ _ e => nomatch e
theorem cP_cut {s : Nat} (hs : ¬ Dg s) {x y : Nat × Nat} {k l : List Nat} (hk : Stop k) (hl : Stop l) (e : cP s x ++ k = cP s y ++ l) : x = y ∧ k = l := by
  unfold cP at e
  rw [List.append_assoc, List.append_assoc] at e
  obtain ⟨h1, h2⟩ := dig_cut (num_dg _) (num_dg _) (stop_c hs) (stop_c hs) (show numL x.1 ++ s :: (numL x.2 ++ k) = numL y.1 ++ s :: (numL y.2 ++ l) from e)
  injection h2 with _ h3
  obtain ⟨h4, h5⟩ := dig_cut (num_dg _) (num_dg _) hk hl h3
  exact ⟨Prod.ext (numL_inj h1) (numL_inj h4), h5⟩
/-- what stands behind the first: each with a space ahead -/
def tailC (s : Nat) (k : List Nat) : List (Nat × Nat) → List Nat
  | [] => k
  | y :: t => 32 :: (cP s y ++ tailC s k t)
theorem joinL_tail (s : Nat) (k : List Nat) : ∀ (a : List Nat) (t : List (Nat × Nat)), joinL [32] (a :: t.map (cP s)) ++ k = a ++ tailC s k t
  | a, [] => rfl
  | a, y :: t => by
    show (a ++ ([32] ++ joinL [32] (cP s y :: t.map (cP s)))) ++ k = a ++ 32 :: (cP s y ++ tailC s k t)
    rw [List.append_assoc, List.append_assoc, joinL_tail s k (cP s y) t]
    rfl
theorem tail_stop {s : Nat} {k : List Nat} (hk : Stop k) : ∀ t, Stop (tailC s k t)
  | [] => hk
  | _ :: _ => stop_c (by unfold Dg; omega)
theorem tail_inj {s : Nat} (hs : ¬ Dg s) {k l : List Nat} (hk : Stop k) (hl : Stop l) (nk : ∀ q, k ≠ 32 :: q) (nl : ∀ q, l ≠ 32 :: q) : ∀ t u, tailC s k t = tailC s l u → t = u ∧ k = l
  | [], [], e => ⟨rfl, e⟩
  | [], y :: u, e => absurd e (nk _)
  | y :: t, [], e => absurd e.symm (nl _)
  | y :: t, z :: u, e => by
    injection e with _ e
    obtain ⟨h1, h2⟩ := cP_cut hs (tail_stop hk t) (tail_stop hl u) e
    obtain ⟨h3, h4⟩ := tail_inj hs hk hl nk nl t u h2
    exact ⟨by rw [h1, h3], h4⟩
theorem tl_pair {c : Str} {s : Nat} (h : tl c = [s]) (x : Nat × Nat) : tl (pairT c x) = cP s x := by
  unfold pairT cP numS
  rw [tl_append, tl_append, tl_num, tl_num, h, List.append_assoc]
  rfl
theorem tl_field (r p : List (Nat × Nat)) : tl (fieldT r p) = joinL [32] (r.map (cP 58)) ++ 59 :: tailC 64 [] p := by
  unfold fieldT
  have e1 : tl (" " : Str) = [32] := by decide
  have e2 : tl (":" : Str) = [58] := by decide
  have e3 : tl ("@" : Str) = [64] := by decide
  have e4 : tl (";" : Str) = [59] := by decide
  have m1 : (r.map (pairT ":")).map tl = r.map (cP 58) := by
    rw [List.map_map]
    exact List.map_congr_left fun x _ => tl_pair e2 x
  have m2 : (p.map (pairT "@")).map tl = p.map (cP 64) := by
    rw [List.map_map]
    exact List.map_congr_left fun x _ => tl_pair e3 x
  rw [join_eq, tl_join, List.map_cons, tl_append, join_eq, tl_join, m1, m2, e1, e4]
  have := joinL_tail 64 [] (joinL [32] (r.map (cP 58)) ++ [59]) p
  rw [List.append_nil] at this
  rw [this, List.append_assoc]
  rfl
theorem field_inj {r p r' p' : List (Nat × Nat)} (h : fieldT r p = fieldT r' p') : r = r' ∧ p = p' := by
  have e := congrArg tl h
  rw [tl_field, tl_field] at e
  have n58 : ¬ Dg 58 := by unfold Dg; omega
  have n64 : ¬ Dg 64 := by unfold Dg; omega
  have s59 : ∀ k, Stop (59 :: k) := fun k => stop_c (by unfold Dg; omega)
  have n32 : ∀ k q : List Nat, 59 :: k ≠ 32 :: q := fun k q z => by
    injection z with z _
    omega
  have fin : ∀ t u : List (Nat × Nat), 59 :: tailC 64 [] t = 59 :: tailC 64 [] u → t = u := fun t u z => by
    injection z with _ z
    exact (tail_inj n64 stop_nil stop_nil (fun _ z => nomatch z) (fun _ z => nomatch z) t u z).1
  have first : ∀ (x : Nat × Nat) (k l : List Nat), cP 58 x ++ k ≠ 59 :: l := fun x k l z => by
    unfold cP at z
    cases q : numL x.1 with
    | nil => exact numL_ne _ q
    | cons c cs =>
      rw [q] at z
      injection z with z _
      have := num_dg x.1 c (by rw [q]; exact List.mem_cons_self)
      rw [z] at this
      exact absurd this (by unfold Dg; omega)
  cases r with
  | nil =>
    cases r' with
    | nil => exact ⟨rfl, fin _ _ e⟩
    | cons x t =>
      rw [List.map_cons, joinL_tail] at e
      exact absurd e.symm (first _ _ _)
  | cons x t =>
    cases r' with
    | nil =>
      rw [List.map_cons, joinL_tail] at e
      exact absurd e (first _ _ _)
    | cons y u =>
      rw [List.map_cons, joinL_tail, List.map_cons, joinL_tail] at e
      obtain ⟨h1, h2⟩ := cP_cut n58 (tail_stop (s59 _) t) (tail_stop (s59 _) u) e
      obtain ⟨h3, h4⟩ := tail_inj n58 (s59 _) (s59 _) (n32 _) (n32 _) t u h2
      exact ⟨by rw [h1, h3], fin _ _ h4⟩
end Pf

set_option maxHeartbeats 1000000
namespace Pf
open PySem PySem.Spec PyProof.Rows L2
/-! ### equality of data without bools and dicts -/
mutual
def clean : PyData → Bool
  | .none => true
  | .int _ => true
  | .str _ => true
  | .bool _ => false
  | .dict _ => false
  | .list xs => cleanAll xs
  | .tuple xs => cleanAll xs
def cleanAll : List PyData → Bool
  | [] => true
  | x :: xs => clean x && cleanAll xs
end
theorem cleanAll_mem : ∀ {ds : List PyData}, (∀ d ∈ ds, clean d = true) → cleanAll ds = true
  | [], _ => by simp only [cleanAll]
  | d :: ds, h => by simp only [cleanAll, h d List.mem_cons_self, cleanAll_mem fun e he => h e (List.mem_cons_of_mem _ he), Bool.and_self]
mutual
theorem eqv_clean : ∀ (d e : PyData), clean d = true → clean e = true → (PyData.eqv d e = true ↔ d = e)
  | .none, .none, _, _ => by simp [PyData.eqv]
  | .none, .int _, _, _ => by simp [PyData.eqv]
  | .none, .str _, _, _ => by simp [PyData.eqv]
  | .none, .list _, _, _ => by simp [PyData.eqv]
  | .none, .tuple _, _, _ => by simp [PyData.eqv]
  | .int _, .none, _, _ => by simp [PyData.eqv]
  | .int i, .int j, _, _ => by simp [PyData.eqv]
  | .int _, .str _, _, _ => by simp [PyData.eqv]
  | .int _, .list _, _, _ => by simp [PyData.eqv]
  | .int _, .tuple _, _, _ => by simp [PyData.eqv]
  | .str _, .none, _, _ => by simp [PyData.eqv]
  | .str _, .int _, _, _ => by simp [PyData.eqv]
  | .str x, .str y, _, _ => by simp [PyData.eqv]
  | .str _, .list _, _, _ => by simp [PyData.eqv]
  | .str _, .tuple _, _, _ => by simp [PyData.eqv]
  | .list _, .none, _, _ => by simp [PyData.eqv]
  | .list _, .int _, _, _ => by simp [PyData.eqv]
  | .list _, .str _, _, _ => by simp [PyData.eqv]
  | .list xs, .list ys, h1, h2 => by
    simp only [clean] at h1 h2
    simp only [PyData.eqv, PyData.list.injEq]
    exact eqvAll_clean xs ys h1 h2
  | .list _, .tuple _, _, _ => by simp [PyData.eqv]
  | .tuple _, .none, _, _ => by simp [PyData.eqv]
  | .tuple _, .int _, _, _ => by simp [PyData.eqv]
  | .tuple _, .str _, _, _ => by simp [PyData.eqv]
  | .tuple _, .list _, _, _ => by simp [PyData.eqv]
  | .tuple xs, .tuple ys, h1, h2 => by
    simp only [clean] at h1 h2
    simp only [PyData.eqv, PyData.tuple.injEq]
    exact eqvAll_clean xs ys h1 h2
  | .bool _, _, h, _ => by simp [clean] at h
  | .dict _, _, h, _ => by simp [clean] at h
  | .none, .bool _, _, h => by simp [clean] at h
  | .none, .dict _, _, h => by simp [clean] at h
  | .int _, .bool _, _, h => by simp [clean] at h
  | .int _, .dict _, _, h => by simp [clean] at h
  | .str _, .bool _, _, h => by simp [clean] at h
  | .str _, .dict _, _, h => by simp [clean] at h
  | .list _, .bool _, _, h => by simp [clean] at h
  | .list _, .dict _, _, h => by simp [clean] at h
  | .tuple _, .bool _, _, h => by simp [clean] at h
  | .tuple _, .dict _, _, h => by simp [clean] at h
theorem eqvAll_clean : ∀ (ds es : List PyData), cleanAll ds = true → cleanAll es = true → (PyData.eqvAll ds es = true ↔ ds = es)
  | [], [], _, _ => by simp [PyData.eqvAll]
  | [], _ :: _, _, _ => by simp [PyData.eqvAll]
  | _ :: _, [], _, _ => by simp [PyData.eqvAll]
  | x :: xs, y :: ys, h1, h2 => by
    simp only [cleanAll, Bool.and_eq_true] at h1 h2
    simp only [PyData.eqvAll, Bool.and_eq_true, List.cons.injEq]
    rw [eqv_clean x y h1.1 h2.1, eqvAll_clean xs ys h1.2 h2.2]
end
theorem layAll_mem : ∀ {ds : List PyData}, (∀ d ∈ ds, d.canLay0 = true) → PyData.canLayAll0 ds = true
  | [], _ => by simp only [PyData.canLayAll0]
  | d :: ds, h => by simp only [PyData.canLayAll0, h d List.mem_cons_self, layAll_mem fun e he => h e (List.mem_cons_of_mem _ he), Bool.and_self]
theorem depAll_mem {k : Nat} : ∀ {ds : List PyData}, (∀ d ∈ ds, d.depth ≤ k) → PyData.depthAll ds ≤ k
  | [], _ => by
    simp only [PyData.depthAll]
    exact Nat.zero_le _
  | d :: ds, h => by
    simp only [PyData.depthAll]
    exact Nat.max_le.mpr ⟨h d List.mem_cons_self, depAll_mem fun e he => h e (List.mem_cons_of_mem _ he)⟩
/-- data without bools and dicts, at most so deep -/
structure Cln (d : PyData) (k : Nat) : Prop where
  lay : d.canLay0 = true
  dp : d.depth ≤ k
  cl : clean d = true
theorem Cln.non : Cln .none 0 := ⟨by simp only [PyData.canLay0], by simp only [PyData.depth]; exact Nat.le_refl _, by simp only [clean]⟩
theorem Cln.int (i : Int) : Cln (.int i) 0 := ⟨by simp only [PyData.canLay0], by simp only [PyData.depth]; exact Nat.le_refl _, by simp only [clean]⟩
theorem Cln.tuple {ds : List PyData} {k : Nat} (h : ∀ d ∈ ds, Cln d k) : Cln (.tuple ds) (k + 1) := ⟨by
  simp only [PyData.canLay0]
  exact layAll_mem fun d hd => (h d hd).lay, by
  simp only [PyData.depth]
  have := depAll_mem (k := k) fun d hd => (h d hd).dp
  omega, by
  simp only [clean]
  exact cleanAll_mem fun d hd => (h d hd).cl⟩
theorem Cln.list {ds : List PyData} {k : Nat} (h : ∀ d ∈ ds, Cln d k) : Cln (.list ds) (k + 1) := ⟨by
  simp only [PyData.canLay0]
  exact layAll_mem fun d hd => (h d hd).lay, by
  simp only [PyData.depth]
  have := depAll_mem (k := k) fun d hd => (h d hd).dp
  omega, by
  simp only [clean]
  exact cleanAll_mem fun d hd => (h d hd).cl⟩
theorem Cln.up {d : PyData} {k k' : Nat} (h : Cln d k) (hk : k ≤ k') : Cln d k' := ⟨h.lay, Nat.le_trans h.dp hk, h.cl⟩
theorem Cln.shaped {d : PyData} {k : Nat} (h : Cln d k) (hk : k ≤ 64) : SeqAt.shaped d = true := by
  unfold SeqAt.shaped
  rw [h.lay, decide_eq_true (Nat.le_trans h.dp hk)]
  rfl
theorem Cln.tab (ts : List Int) : Cln (tabD ts) 1 := Cln.tuple fun d hd => by
  obtain ⟨t, _, rfl⟩ := List.mem_map.mp hd
  exact Cln.int t
theorem cEqn_cln {n : Bool} {d e : PyData} {k : Nat} (hd : Cln d k) (he : Cln e k) (hk : k ≤ 64) {b : Bool} (h : b = true ↔ d = e) : cEqn n d e = some (Bool.xor n b) := by
  have q : ∀ c : Bool, (c = true ↔ d = e) → c = b := fun c hc => by
    cases c <;> cases b <;> simp_all
  unfold cEqn
  split
  · rename_i x y
    rw [q (decide (x = y)) (by rw [decide_eq_true_eq, PyData.str.injEq])]
  · rename_i x y
    rw [q (decide (x = y)) (by rw [decide_eq_true_eq, PyData.int.injEq])]
  · rw [hd.shaped hk, he.shaped hk, Bool.and_self, if_pos rfl, q _ (eqv_clean d e hd.cl he.cl)]
theorem cNe_cln {d : PyData} {k : Nat} (hd : Cln d k) (hk : k ≤ 64) : cNe d d = some false := cEqn_cln hd hd hk (b := true) ⟨fun _ => rfl, fun _ => rfl⟩
theorem cEq_cln {d : PyData} {k : Nat} (hd : Cln d k) (hk : k ≤ 64) : cEq d d = some true := cEqn_cln hd hd hk (b := true) ⟨fun _ => rfl, fun _ => rfl⟩
theorem cIn_cln {d : PyData} {ds : List PyData} {k : Nat} (hd : Cln d k) (hs : ∀ e ∈ ds, Cln e k) (hk : k + 1 ≤ 64) {b : Bool} (h : b = true ↔ d ∈ ds) : cIn d (.list ds) = some b := by
  have s1 := hd.shaped (show k ≤ 64 by omega)
  have s2 := (Cln.list hs).shaped hk
  unfold cIn
  dsimp only
  rw [s1, s2, Bool.and_self, if_pos rfl]
  congr 1
  have : (ds.any fun z => PyData.eqv z d) = true ↔ d ∈ ds := by
    rw [List.any_eq_true]
    constructor
    · rintro ⟨z, hz, e⟩
      rw [← (eqv_clean z d (hs z hz).cl hd.cl).mp e]
      exact hz
    · intro hz
      exact ⟨d, hz, (eqv_clean d d hd.cl hd.cl).mpr rfl⟩
  cases hc : ds.any fun z => PyData.eqv z d <;> cases b <;> simp_all
theorem tabD_inj {a b : List Int} (h : tabD a = tabD b) : a = b := by
  unfold tabD at h
  have h := PyData.tuple.inj h
  exact (List.map_inj_right fun x y e => PyData.int.inj e).mp h
end Pf

set_option maxHeartbeats 1000000
namespace Pf
open PySem PySem.Spec PyProof.Rows L2
open _root_.TL
def rowN (x : Nat × Nat) : PyData := .tuple [.int (x.1 : Nat), .int (x.2 : Nat)]
def seqN (r : List (Nat × Nat)) : PyData := .tuple (r.map rowN)
abbrev StT := List (Nat × Nat) × List (Nat × Nat)
def stN (s : StT) : PyData := .tuple [seqN s.1, seqN s.2]
def Bd (x : Nat × Nat) : Prop := x.1 ≤ 2000000000 ∧ x.2 ≤ 2000000000
structure StB (s : StT) : Prop where
  l1 : s.1.length ≤ 12
  l2 : s.2.length ≤ 20
  b1 : ∀ x ∈ s.1, Bd x
  b2 : ∀ x ∈ s.2, Bd x
theorem numS_len {n : Nat} (h : n ≤ 2000000000) : (numS n).length ≤ 10 := by
  unfold numS
  rw [len_tl, tl_num]
  exact numL_len (by decide) (Nat.lt_of_le_of_lt h (by decide))
theorem log_ok {n : Nat} (h : n ≤ 2000000000) : decide ((n : Int).natAbs.log2 < 1920) = true := decide_eq_true (by
  rw [Int.natAbs_natCast]
  by_cases hz : n = 0
  · rw [hz]
    decide +kernel
  · have : n.log2 < 40 := (Nat.log2_lt hz).mpr (Nat.lt_of_le_of_lt h (by decide +kernel))
    omega)
theorem oFmt_n {n : Nat} (h : n ≤ 2000000000) : oFmt (.int (n : Nat)) = some (.str (numS n)) := if_pos (log_ok h)
theorem oStr_n {n : Nat} (h : n ≤ 2000000000) : oStr (.int (n : Nat)) = some (.str (numS n)) := if_pos (log_ok h)
theorem oAdd_s {x y : Str} (h : x.length + y.length ≤ 1000000) : oAdd (.str x) (.str y) = some (.str (x ++ y)) := if_pos h
theorem empty_app (x : Str) : Str.empty ++ x = x := ext_tl (by rw [tl_append]; rfl)
theorem oAdd_l2 {xs ys : List PyData} (h : xs.length + ys.length ≤ 1000000) : oAdd (.list xs) (.list ys) = some (.list (xs ++ ys)) := if_pos h
theorem pair_len {c : Str} (hc : c.length = 1) {x : Nat × Nat} (h : Bd x) : (pairT c x).length ≤ 21 := by
  unfold pairT
  rw [strLen_append, strLen_append, hc]
  have h1 := numS_len h.1
  have h2 := numS_len h.2
  omega
theorem pair_adds {c : Str} (hc : c.length = 1) {x : Nat × Nat} (h : Bd x) : oAdd (.str Str.empty) (.str (numS x.1)) = some (.str (numS x.1)) ∧ oAdd (.str (numS x.1)) (.str c) = some (.str (numS x.1 ++ c)) ∧ oAdd (.str (numS x.1 ++ c)) (.str (numS x.2)) = some (.str (pairT c x)) := by
  have h1 := numS_len h.1
  have h2 := numS_len h.2
  refine ⟨?_, oAdd_s (by omega), oAdd_s (by rw [strLen_append]; omega)⟩
  rw [oAdd_s (by have : Str.empty.length = 0 := rfl; omega), empty_app]
theorem T_push {x : Nat × Nat} (h : Bd x) : T_push_text (.int (x.1 : Nat)) (.int (x.2 : Nat)) = S.ret (.str (pairT "@" x)) := by
  obtain ⟨a1, a2, a3⟩ := pair_adds (c := "@") rfl h
  unfold T_push_text
  simp only [S.ret_bind, oFmt_n h.1, oFmt_n h.2, S.lift_some, a1, a2, a3]
theorem strsOf_strs : ∀ ys : List Str, strsOf (ys.map PyData.str) = some ys
  | [] => rfl
  | y :: ys => by
    show (strsOf (ys.map PyData.str)).map (y :: ·) = _
    rw [strsOf_strs ys]
    rfl
theorem sum_le {m : Nat} : ∀ {ys : List Str}, (∀ y ∈ ys, y.length ≤ m) → (ys.map (·.length)).sum ≤ m * ys.length
  | [], _ => Nat.zero_le _
  | y :: ys, h => by
    have h1 := h y List.mem_cons_self
    have h2 := sum_le (ys := ys) fun z hz => h z (List.mem_cons_of_mem _ hz)
    rw [List.map_cons, List.sum_cons, List.length_cons, Nat.mul_succ]
    omega
theorem oJoin_l {ys : List Str} {m : Nat} (h : ∀ y ∈ ys, y.length ≤ m) (hl : m * ys.length + ys.length ≤ 1000000) : oJoin " " (.list (ys.map .str)) = some (.str (Txt.join " " ys)) := by
  unfold oJoin
  have e : seqStrs (.list (ys.map .str)) = some ys := strsOf_strs ys
  have hs := sum_le h
  have k : joinOk " " ys = true := decide_eq_true (by
    have : (" " : Str).length = 1 := rfl
    rw [this]
    omega)
  rw [e]
  exact if_pos k
theorem join_len {ys : List Str} {m : Nat} (h : ∀ y ∈ ys, y.length ≤ m) : (Txt.join " " ys).length ≤ m * ys.length + ys.length := by
  rw [join_eq]
  have h1 := PySem.StrLaws.join_length_le " " ys
  have h2 := sum_le h
  have : (" " : Str).length = 1 := rfl
  rw [this] at h1
  omega
theorem pair_all {c : Str} (hc : c.length = 1) {r : List (Nat × Nat)} (h : ∀ x ∈ r, Bd x) : ∀ y ∈ r.map (pairT c), y.length ≤ 21 := fun y hy => by
  obtain ⟨x, hx, rfl⟩ := List.mem_map.mp hy
  exact pair_len hc (h x hx)
/-- the three joins of a field's text -/
theorem field_ops {s : StT} (h : StB s) : oJoin " " (.list (s.1.map fun x => PyData.str (pairT ":" x))) = some (.str (Txt.join " " (s.1.map (pairT ":")))) ∧ oAdd (.str (Txt.join " " (s.1.map (pairT ":")))) (.str ";") = some (.str (Txt.join " " (s.1.map (pairT ":")) ++ ";")) ∧
    oAdd (.list [.str (Txt.join " " (s.1.map (pairT ":")) ++ ";")]) (.list (s.2.map fun x => PyData.str (pairT "@" x))) = some (.list (((Txt.join " " (s.1.map (pairT ":")) ++ ";") :: s.2.map (pairT "@")).map .str)) ∧
    oJoin " " (.list (((Txt.join " " (s.1.map (pairT ":")) ++ ";") :: s.2.map (pairT "@")).map .str)) = some (.str (fieldT s.1 s.2)) := by
  have p1 := pair_all (c := ":") rfl h.b1
  have p2 := pair_all (c := "@") rfl h.b2
  have l1 := h.l1
  have l2 := h.l2
  have m1 : (s.1.map fun x => PyData.str (pairT ":" x)) = (s.1.map (pairT ":")).map .str := by rw [List.map_map]; rfl
  have m2 : (s.2.map fun x => PyData.str (pairT "@" x)) = (s.2.map (pairT "@")).map .str := by rw [List.map_map]; rfl
  have jl := join_len p1
  rw [List.length_map] at jl
  have c1 : (";" : Str).length = 1 := rfl
  refine ⟨?_, oAdd_s (by omega), ?_, ?_⟩
  · rw [m1]
    exact oJoin_l p1 (by rw [List.length_map]; omega)
  · rw [m2]
    exact oAdd_l2 (by simp only [List.length_cons, List.length_nil, List.length_map]; omega)
  · refine oJoin_l (m := 300) (fun y hy => ?_) (by simp only [List.length_cons, List.length_map]; omega)
    rcases List.mem_cons.mp hy with rfl | hy
    · rw [strLen_append]
      omega
    · have := p2 y hy
      omega
theorem T_field {s : StT} (h : StB s) : T_field_text (seqN s.1) (seqN s.2) = S.ret (.str (fieldT s.1 s.2)) := by
  obtain ⟨j1, j2, j3, j4⟩ := field_ops h
  have l1 := h.l1
  have l2 := h.l2
  have q1 : seqD (seqN s.1) = some (s.1.map rowN) := rfl
  have q2 : seqD (seqN s.2) = some (s.2.map rowN) := rfl
  unfold T_field_text
  simp only [S.ret_bind, q1, q2, S.lift_some, S.bind_assoc]
  rw [szD_ok (by rw [List.length_map]; omega), S.lift_some, S.ret_bind, S.mapM_map, S.mapM_ret (g := fun x => PyData.str (pairT ":" x))]
  · rw [S.ret_bind, j1, S.lift_some, S.ret_bind, j2, S.lift_some, S.ret_bind, szD_ok (by rw [List.length_map]; omega), S.lift_some, S.ret_bind, S.mapM_map, S.mapM_ret (g := fun x => PyData.str (pairT "@" x))]
    · rw [S.ret_bind, j3, S.lift_some, S.ret_bind, j4, S.lift_some]
    · intro x hx
      simp only [rowN, un2_t, S.lift_some, S.ret_bind, u2, T_push (h.b2 x hx), S.noEx_ret]
  · intro x hx
    have b := h.b1 x hx
    obtain ⟨a1, a2, a3⟩ := pair_adds (c := ":") rfl b
    simp only [rowN, un2_t, S.lift_some, S.ret_bind, oFmt_n b.1, oFmt_n b.2, a1, a2, a3, S.noEx_ret]
theorem T_lawfield {s : StT} (h : StB s) : T__law_field_text (.tuple [seqN s.1, seqN s.2]) = S.ret (.str (fieldT s.1 s.2)) := by
  obtain ⟨j1, j2, j3, j4⟩ := field_ops h
  have l1 := h.l1
  have l2 := h.l2
  have i0 : oIx (.tuple [seqN s.1, seqN s.2]) (.int 0) = some (seqN s.1) := rfl
  have i1 : oIx (.tuple [seqN s.1, seqN s.2]) (.int 1) = some (seqN s.2) := rfl
  have q1 : seqD (seqN s.1) = some (s.1.map rowN) := rfl
  have q2 : seqD (seqN s.2) = some (s.2.map rowN) := rfl
  unfold T__law_field_text
  simp only [S.ret_bind, i0, i1, q1, q2, S.lift_some, S.bind_assoc]
  rw [szD_ok (by rw [List.length_map]; omega), S.lift_some, S.ret_bind, S.mapM_map, S.mapM_ret (g := fun x => PyData.str (pairT ":" x))]
  · rw [S.ret_bind, j1, S.lift_some, S.ret_bind, j2, S.lift_some, S.ret_bind, szD_ok (by rw [List.length_map]; omega), S.lift_some, S.ret_bind, S.mapM_map, S.mapM_ret (g := fun x => PyData.str (pairT "@" x))]
    · rw [S.ret_bind, j3, S.lift_some, S.ret_bind, j4, S.lift_some]
    · intro x hx
      have b := h.b2 x hx
      obtain ⟨a1, a2, a3⟩ := pair_adds (c := "@") rfl b
      simp only [rowN, un2_t, S.lift_some, S.ret_bind, oStr_n b.1, oStr_n b.2, a2, a3, S.noEx_ret]
  · intro x hx
    have b := h.b1 x hx
    obtain ⟨a1, a2, a3⟩ := pair_adds (c := ":") rfl b
    simp only [rowN, un2_t, S.lift_some, S.ret_bind, oStr_n b.1, oStr_n b.2, a2, a3, S.noEx_ret]
end Pf

set_option maxHeartbeats 1000000
namespace Pf
open PySem PySem.Spec PyProof.Rows L2
theorem can_dE {L : Int} (h0 : 0 < L) (h1 : L < 1073741824) : Can 1 (T__law_draw (.int L)) fun d => ∃ n : Nat, d = .int (n : Nat) ∧ (n : Int) < L := (Can.drawEh h0 h1).imp fun d ⟨r, e, r0, r1⟩ => ⟨r.toNat, by rw [e]; congr 1; omega, by omega⟩
theorem can_treeE {long : Int} (l0 : 1 ≤ long) (l1 : long ≤ 1000000) : Can 40 (T__law_tree (.int 12) (.int long)) fun d => ∃ r : List (Nat × Nat), d = seqN r ∧ r.length ≤ 11 ∧ ∀ x ∈ r, Bd x := by
  unfold T__law_tree
  simp only [S.ret_bind, u1, S.bind_assoc]
  refine Can.up (n := 1 + (1 + (1 * 11 + (1 * 11 + 0)))) ?_ (by decide)
  refine (can_dE (by decide) (by decide)).bind fun d ⟨m, hd, hm⟩ => ?_
  subst hd
  simp only [oAdd_i, S.lift_some, S.ret_bind]
  refine (can_dE (by decide) (by decide)).bind fun d ⟨w, hd, hw⟩ => ?_
  subst hd
  have e : (1 + (m : Int) - 1) = (m : Int) := by omega
  simp only [S.ret_bind, un2_t, S.lift_some, oSub_i, e]
  rw [rngI (show (0 : Int) ≤ (m : Int) by omega) (by omega), S.lift_some, S.ret_bind, szD_ok (by rw [List.length_map, List.length_range]; omega), S.lift_some, S.ret_bind]
  refine Can.up (n := 1 * ((List.range (m : Int).toNat).map mkD).length + (1 * 11 + 0)) ?_ (by rw [List.length_map, List.length_range]; omega)
  refine (Can.mapM (n := 1) (P := fun _ y => ∃ q : Nat, y = .int (q : Nat) ∧ q ≤ 100) 0 fun i x hx => ?_).bind fun ys hys => ?_
  · obtain ⟨hi, rfl⟩ := range_at hx
    simp only [mkD, oAdd_i, S.lift_some, S.ret_bind]
    refine Can.noEx ?_
    refine Can.up (n := 1 + 0) ?_ (by decide)
    refine (can_dE (by omega) (by omega)).bind fun d ⟨q, hd, hq⟩ => ?_
    subst hd
    obtain ⟨y, hy, ey⟩ := oIx_mem (xs := [PyData.int (i : Nat), .int 0, .int (q : Nat)]) (i := (w : Int)) (by omega) (by show (w : Int) < ((3 : Nat) : Int); omega)
    simp only [ey, S.lift_some]
    refine Can.ret ?_
    simp only [List.mem_cons, List.not_mem_nil, or_false] at hy
    rcases hy with rfl | rfl | rfl
    · exact ⟨i, rfl, by omega⟩
    · exact ⟨0, rfl, by omega⟩
    · exact ⟨q, rfl, by omega⟩
  · obtain ⟨hyl, hyp⟩ := hys
    rw [List.length_map, List.length_range] at hyl
    simp only [S.ret_bind, seqD_l, S.lift_some]
    rw [szD_ok (by omega), S.lift_some, S.ret_bind]
    refine Can.up (n := 1 * ys.length + 0) ?_ (by omega)
    refine (Can.mapM (n := 1) (P := fun _ y => ∃ x : Nat × Nat, Bd x ∧ y = rowN x) 0 fun i x hx => ?_).bind fun xs hxs => ?_
    · obtain ⟨q, eq, hq⟩ := hyp i x hx
      subst eq
      refine Can.noEx ?_
      refine Can.up (n := 1 + 0) ?_ (by decide)
      refine (can_dE (by omega) (by omega)).bind fun d ⟨v, hd, hv⟩ => ?_
      subst hd
      simp only [oAdd_i, S.lift_some, S.ret_bind]
      have ev : (1 + (v : Int)) = ((1 + v : Nat) : Int) := by omega
      rw [ev]
      exact Can.ret ⟨(q, 1 + v), ⟨show q ≤ 2000000000 by omega, show 1 + v ≤ 2000000000 by omega⟩, rfl⟩
    · obtain ⟨hxl, hxp⟩ := hxs
      obtain ⟨r, rfl, hr⟩ := decode (enc := rowN) (P := Bd) hxp
      rw [oTuple_l, S.lift_some]
      rw [List.length_map] at hxl
      exact Can.ret ⟨r, rfl, by omega, hr⟩
theorem cNe_rows (r : List (Nat × Nat)) : cNe (.list (r.map rowN)) (.list []) = some (!r.isEmpty) := by
  have c1 : Cln (.list (r.map rowN)) 2 := Cln.list fun d hd => by
    obtain ⟨x, _, rfl⟩ := List.mem_map.mp hd
    refine Cln.tuple fun d hd => ?_
    rcases List.mem_cons.mp hd with rfl | hd
    · exact Cln.int _
    · rw [List.mem_singleton.mp hd]
      exact Cln.int _
  have z := cEqn_cln (n := true) (b := r.isEmpty) c1 ((Cln.list (ds := []) (k := 0) fun d hd => nomatch hd).up (by decide)) (by decide) (by
    rw [PyData.list.injEq, List.map_eq_nil_iff, List.isEmpty_iff])
  rw [Bool.true_xor] at z
  exact z
theorem can_pushesE {r : List (Nat × Nat)} (hl : r.length ≤ 12) {late : Int} (l0 : 0 ≤ late) (l1 : late ≤ 1000000000) : Can 70 (T__law_pushes (seqN r) (.int 20) (.int late)) fun d => ∃ p : List (Nat × Nat), d = seqN p ∧ p.length ≤ 20 ∧ ∀ x ∈ p, Bd x := by
  unfold T__law_pushes
  have el : oLen (seqN r) = some (.int (r.length : Nat)) := by
    show some (PyData.int ((r.map rowN).length : Nat)) = _
    rw [List.length_map]
  simp only [S.ret_bind, u1, S.bind_assoc, oAdd_i, S.lift_some, el]
  refine Can.up (n := 1 + (3 * 20 + 0)) ?_ (by decide)
  refine (can_dE (by decide) (by decide)).bind fun d ⟨m, hd, hm⟩ => ?_
  subst hd
  rw [rngI (show (0 : Int) ≤ (m : Int) by omega) (by omega), S.lift_some, S.ret_bind]
  refine Can.up (n := 3 * ((List.range (m : Int).toNat).map mkD).length + 0) ?_ (by rw [List.length_map, List.length_range]; omega)
  refine (Can.foldM (n := 3) (fun i (s : List PyData) => ∃ p : List (Nat × Nat), s = p.map rowN ∧ p.length = i ∧ ∀ x ∈ p, Bd x) 0 ⟨[], rfl, rfl, fun _ z => nomatch z⟩ fun i s x ⟨p, hs, hp, hb⟩ hx => ?_).bind fun s hs => ?_
  · have hi := (List.getElem?_eq_some_iff.mp hx).1
    rw [List.length_map, List.length_range] at hi
    subst hs
    refine Can.up (n := 1 + (1 + (1 + 0))) ?_ (by decide)
    refine (can_dE (by omega) (by omega)).bind fun d ⟨a, hd, ha⟩ => ?_
    subst hd
    refine (can_dE (by omega) (by omega)).bind fun d ⟨b, hd, hb'⟩ => ?_
    subst hd
    have hrow : PyData.tuple [.int (a : Nat), .int (b : Nat)] = rowN (a, b) := rfl
    rw [hrow, cNe_rows, S.lift_some, S.ret_bind]
    have put : ∀ x : Nat × Nat, Bd x → Can 0 ((S.lift (appD (p.map rowN) (rowN x))).bind fun s37 => S.ret s37) fun s => ∃ q : List (Nat × Nat), s = q.map rowN ∧ q.length = 0 + i + 1 ∧ ∀ y ∈ q, Bd y := fun x hx => by
      rw [appD_ok (by rw [List.length_map]; omega), S.lift_some, S.ret_bind]
      refine Can.ret ⟨p ++ [x], by rw [List.map_append]; rfl, by rw [List.length_append, hp]; rfl, fun y hy => ?_⟩
      rcases List.mem_append.mp hy with hy | hy
      · exact hb y hy
      · rw [List.mem_singleton.mp hy]
        exact hx
    have bab : Bd (a, b) := ⟨show a ≤ 2000000000 by omega, show b ≤ 2000000000 by omega⟩
    cases p with
    | nil =>
      simp only [List.isEmpty_nil, Bool.not_true, bAnd, Bool.false_eq_true, if_false, S.ret_bind]
      exact (put _ bab).up (by decide)
    | cons y t =>
      simp only [List.isEmpty_cons, Bool.not_false, bAnd, if_true, S.bind_assoc]
      refine (can_dE (by decide) (by decide)).bind fun d ⟨c, hd, hc⟩ => ?_
      subst hd
      have ce : cEq (.int (c : Int)) (.int 0) = some (decide ((c : Int) = 0)) := cEq_i _ _
      rw [ce, S.lift_some, S.ret_bind]
      have ix : oIx (.list ((y :: t).map rowN)) (.int 0) = some (rowN y) := atI_0 _ _
      by_cases h0 : (c : Int) = 0
      · rw [decide_eq_true h0, if_pos rfl, ix, S.lift_some, S.ret_bind]
        exact put y (hb y List.mem_cons_self)
      · rw [decide_eq_false h0, if_neg Bool.false_ne_true, S.ret_bind]
        exact put _ bab
  · obtain ⟨p, rfl, hp, hb⟩ := hs
    rw [List.length_map, List.length_range] at hp
    rw [oTuple_l, S.lift_some]
    exact Can.ret ⟨p, rfl, by omega, hb⟩
theorem can_state : Can 120 (T__law_state (.int 12) (.int 20)) fun d => ∃ s : StT, StB s ∧ d = stN s := by
  unfold T__law_state
  simp only [S.ret_bind, u1, u2, u3, S.bind_assoc, p106, p109, S.lift_some]
  refine Can.up (n := 1 + (40 + (70 + 0))) ?_ (by decide)
  refine (can_dE (by decide) (by decide)).bind fun d ⟨m, hd, hm⟩ => ?_
  subst hd
  have ce : asB2 (cEq (.int (m : Int)) (.int 0)) = some (.bool (decide ((m : Int) = 0))) := by
    show asB2 (cEqn false _ _) = _
    rw [cEq_i]
    rfl
  rw [ce, S.lift_some, S.ret_bind]
  have pick : ∀ (b : Bool) (x y : Int), ∃ z : Int, (z = x ∨ z = y) ∧ (S.lift (oInt (.bool b))).bind (fun i => S.lift (oIx (.list [.int x, .int y]) i)) = S.ret (.int z) := fun b x y => by
    cases b
    · exact ⟨x, .inl rfl, rfl⟩
    · exact ⟨y, .inr rfl, rfl⟩
  obtain ⟨long, hlong, e1⟩ := pick (decide ((m : Int) = 0)) 6 1000000
  obtain ⟨late, hlate, e2⟩ := pick (decide ((m : Int) = 0)) 12 1000000000
  rw [← S.bind_assoc, e1, S.ret_bind]
  refine (can_treeE (by omega) (by omega)).bind fun d ⟨r, hd, hl, hr⟩ => ?_
  subst hd
  rw [← S.bind_assoc, e2, S.ret_bind]
  refine (can_pushesE (by omega) (by omega) (by omega)).bind fun d ⟨p, hd, hpl, hp⟩ => ?_
  subst hd
  exact Can.ret ⟨(r, p), ⟨show r.length ≤ 12 by omega, hpl, hr, hp⟩, rfl⟩
/-! ### the law -/
theorem cln_row (x : Nat × Nat) : Cln (rowN x) 1 := Cln.tuple fun d hd => by
  rcases List.mem_cons.mp hd with rfl | hd
  · exact Cln.int _
  · rw [List.mem_singleton.mp hd]
    exact Cln.int _
theorem cln_seq (r : List (Nat × Nat)) : Cln (seqN r) 2 := Cln.tuple fun d hd => by
  obtain ⟨x, _, rfl⟩ := List.mem_map.mp hd
  exact cln_row x
theorem cln_st (s : StT) : Cln (stN s) 3 := Cln.tuple fun d hd => by
  rcases List.mem_cons.mp hd with rfl | hd
  · exact cln_seq _
  · rw [List.mem_singleton.mp hd]
    exact cln_seq _
theorem rowN_inj {x y : Nat × Nat} (h : rowN x = rowN y) : x = y := by
  unfold rowN at h
  rw [PyData.tuple.injEq] at h
  injection h with h1 h2
  injection h2 with h2 _
  rw [PyData.int.injEq] at h1 h2
  exact Prod.ext (by omega) (by omega)
theorem map_inj {α β : Type} {f : α → β} (hf : ∀ x y, f x = f y → x = y) : ∀ {l m : List α}, l.map f = m.map f → l = m
  | [], [], _ => rfl
  | [], _ :: _, h => by simp at h
  | _ :: _, [], h => by simp at h
  | x :: l, y :: m, h => by
    rw [List.map_cons, List.map_cons] at h
    injection h with h1 h2
    rw [hf _ _ h1, map_inj hf h2]
theorem seqN_inj {r q : List (Nat × Nat)} (h : seqN r = seqN q) : r = q := by
  unfold seqN at h
  rw [PyData.tuple.injEq] at h
  exact map_inj (fun _ _ => rowN_inj) h
theorem stN_inj {s t : StT} (h : stN s = stN t) : s = t := by
  unfold stN at h
  rw [PyData.tuple.injEq] at h
  injection h with h1 h2
  injection h2 with h2 _
  exact Prod.ext (seqN_inj h1) (seqN_inj h2)
def txt (s : StT) : Str := fieldT s.1 s.2
theorem txt_eq (s t : StT) : decide (txt s = txt t) = decide (s = t) := by
  by_cases h : s = t
  · rw [h, decide_eq_true rfl, decide_eq_true rfl]
  · rw [decide_eq_false h, decide_eq_false fun z => h (by obtain ⟨a, b⟩ := field_inj z; exact Prod.ext a b)]
theorem cEq_st (s t : StT) : cEq (stN s) (stN t) = some (decide (s = t)) := by
  have := cEqn_cln (n := false) (b := decide (s = t)) (cln_st s) (cln_st t) (by decide) (by
    rw [decide_eq_true_eq]
    exact ⟨fun h => by rw [h], stN_inj⟩)
  rw [Bool.false_xor] at this
  exact this
theorem cEq_str (x y : Str) : cEq (.str x) (.str y) = some (decide (x = y)) := by
  show some (Bool.xor false _) = _
  rw [Bool.false_xor]
theorem eqv_bools : ∀ bs : List Bool, PyData.eqvAll (bs.map .bool) (bs.map .bool) = true
  | [] => by simp [PyData.eqvAll]
  | b :: bs => by
    have := eqv_bools bs
    simp only [List.map_cons, PyData.eqvAll, this, Bool.and_true]
    cases b <;> simp [PyData.eqv]
theorem cNe_bools (bs : List Bool) : cNe (.list (bs.map .bool)) (.list (bs.map .bool)) = some false := by
  have lay : (PyData.list (bs.map .bool)).canLay0 = true := by
    simp only [PyData.canLay0]
    exact layAll_mem fun d hd => by
      obtain ⟨b, _, rfl⟩ := List.mem_map.mp hd
      simp only [PyData.canLay0]
  have dp : (PyData.list (bs.map .bool)).depth ≤ 64 := by
    simp only [PyData.depth]
    have := depth_of (n := 0) (ds := bs.map PyData.bool) fun d hd => by
      obtain ⟨b, _, rfl⟩ := List.mem_map.mp hd
      simp only [PyData.depth]
      exact Nat.le_refl _
    omega
  have sh : SeqAt.shaped (.list (bs.map .bool)) = true := by
    unfold SeqAt.shaped
    rw [lay, decide_eq_true dp]
    rfl
  show (if (SeqAt.shaped (.list (bs.map .bool)) && SeqAt.shaped (.list (bs.map .bool))) = true then some (Bool.xor true (PyData.eqv (.list (bs.map .bool)) (.list (bs.map .bool)))) else none) = _
  rw [sh, Bool.and_self, if_pos rfl]
  simp only [PyData.eqv, eqv_bools, Bool.xor_self]
theorem fine_seq {r : List (Nat × Nat)} (h : ∀ x ∈ r, Bd x) (hl : r.length ≤ 20) : Fine (seqN r) 3000 2 := by
  refine (Fine.tuple (n := 95) (k := 1) fun d hd => ?_).up ?_ (Nat.le_refl _)
  · obtain ⟨x, hx, rfl⟩ := List.mem_map.mp hd
    have b := h x hx
    refine Fine.tuple (ds := [PyData.int (x.1 : Nat), PyData.int (x.2 : Nat)]) (n := 44) (k := 0) fun d hd => ?_
    rcases List.mem_cons.mp hd with rfl | hd
    · exact fine_int (by have := b.1; omega)
    · rw [List.mem_singleton.mp hd]
      exact fine_int (by have := b.2; omega)
  · rw [List.length_map]
    omega
def longOne : StT := (List.replicate 11 (0, 1000000), (List.replicate 10 [(11, 1000000000), (0, 0)]).flatten)
def sts0 : List StT := [([], []), ([], [(0, 5)]), ([(0, 2)], []), longOne, ([(0, 1), (0, 10)], [(2, 0)])]
theorem sts0_ok : ∀ s ∈ sts0, StB s := by
  have d : ∀ s ∈ sts0, s.1.length ≤ 12 ∧ s.2.length ≤ 20 ∧ (∀ x ∈ s.1, x.1 ≤ 2000000000 ∧ x.2 ≤ 2000000000) ∧ ∀ x ∈ s.2, x.1 ≤ 2000000000 ∧ x.2 ≤ 2000000000 := by decide +kernel
  exact fun s hs => ⟨(d s hs).1, (d s hs).2.1, (d s hs).2.2.1, (d s hs).2.2.2⟩
theorem long_rows : oMul (.list [.tuple [.int 0, .int 1000000]]) (.int 11) = some (.list ((List.replicate 11 ((0 : Nat), (1000000 : Nat))).map rowN)) := rfl
theorem long_pushes : oMulT (.tuple [.tuple [.int 11, .int 1000000000], .tuple [.int 0, .int 0]]) (.int 10) = some (seqN (List.replicate 10 [((11 : Nat), (1000000000 : Nat)), (0, 0)]).flatten) := rfl
theorem isi_str (x : Str) : oIsi "str" (.str x) = some (.bool true) := by
  unfold oIsi
  have : kitB (tyN (.dat (.str x))) "str" = some true := by
    show kitB "str" "str" = some true
    decide +kernel
  rw [this]
  rfl
theorem can_law : Can 3000 T_law fun d => d = .bool true := by
  unfold T_law
  simp only [S.ret_bind, p106, p109, S.lift_some, long_rows, oTuple_l, long_pushes, S.bind_assoc]
  refine Can.up (n := 120 * 12 + (0 + (0 + 0))) ?_ (by decide)
  rw [rngI (show (0 : Int) ≤ 12 by decide) (by decide), S.lift_some, S.ret_bind, szD_ok (by decide), S.lift_some, S.ret_bind]
  refine Can.up (n := 120 * ((List.range (Int.toNat 12)).map mkD).length + 0) ?_ (by decide)
  refine (Can.mapM (n := 120) (P := fun _ y => ∃ s : StT, StB s ∧ y = stN s) 0 fun i x hx => ?_).bind fun xs hxs => ?_
  · simp only [u2]
    exact can_state.noEx
  obtain ⟨hxl, hxp⟩ := hxs
  obtain ⟨sts1, rfl, h1⟩ := decode (enc := stN) (P := StB) hxp
  rw [List.length_map] at hxl
  have hxl : sts1.length = 12 := hxl
  have ea : oAdd (.list (sts0.map stN)) (.list (sts1.map stN)) = some (.list ((sts0 ++ sts1).map stN)) := by
    rw [List.map_append]
    exact oAdd_l2 (by rw [List.length_map, List.length_map, hxl]; decide)
  refine Can.eq (m' := _) ?_ (S.bind_eq ((congrArg S.lift ea).trans (S.lift_some _)) rfl)
  obtain ⟨sts, es⟩ : ∃ sts, sts = sts0 ++ sts1 := ⟨_, rfl⟩
  have hall : ∀ s ∈ sts, StB s := fun s hs => by
    rw [es] at hs
    rcases List.mem_append.mp hs with hs | hs
    · exact sts0_ok s hs
    · exact h1 s hs
  have hlen : sts.length = 17 := by
    rw [es, List.length_append, hxl]
    rfl
  rw [← es]
  have tm : ∀ l : List StT, (l.map fun s => PyData.str (txt s)).length = l.length := fun l => List.length_map _
  simp only [seqD_l, S.lift_some, S.ret_bind]
  refine Can.up (n := 0 * (sts.map stN).length + 0) ?_ (by omega)
  refine (Can.foldF (fun i (s : List PyData) => s = (sts.take i).map fun s => PyData.str (txt s)) 0 rfl (fun i s x hs hx => ?_)).bind fun o ho => ?_
  · rw [List.getElem?_map] at hx
    cases q : sts[i]? with
    | none =>
      rw [q] at hx
      cases hx
    | some st =>
      rw [q] at hx
      cases hx
      have hb := hall st (List.mem_of_getElem? q)
      have f1 := fine_seq hb.b1 (by have := hb.l1; omega)
      have f2 := fine_seq hb.b2 hb.l2
      have rp : oRepr (.list [seqN st.1, seqN st.2]) = some (.str (PyData.list [seqN st.1, seqN st.2]).shown) := okRepr (Fine.pair f1 f2) (by decide) (by decide)
      have un : un2 (stN st) = some (seqN st.1, seqN st.2) := rfl
      rw [Nat.zero_add] at hs
      have ap : appD s (.str (fieldT st.1 st.2)) = some (s ++ [.str (fieldT st.1 st.2)]) := appD_ok (by rw [hs, List.length_map, List.length_take]; omega)
      simp only [un, rp, un2_t, S.lift_some, S.ret_bind, u2, u1, T_field hb, T_lawfield hb, isi_str, toB_b, Bool.not_true, bOr, cNe_s, Bool.false_eq_true, if_false, ap]
      refine Can.ret ?_
      show s ++ [PyData.str (fieldT st.1 st.2)] = (sts.take (0 + i + 1)).map fun s => PyData.str (txt s)
      rw [hs, Nat.zero_add, List.take_succ, q, List.map_append]
      rfl
  cases o with
  | nx s =>
    have hs : s = (sts.take (0 + (sts.map stN).length)).map fun s => PyData.str (txt s) := ho
    rw [Nat.zero_add, List.length_map, List.take_length] at hs
    subst hs
    simp only [flR, Option.map_some, S.lift_some, S.ret_bind]
    refine Can.up (n := 0 * (enuD (sts.map fun s => PyData.str (txt s))).length + 0) ?_ (by omega)
    refine (Can.foldF (fun _ (_ : PUnit) => True) 0 trivial (fun i u x _ hx => ?_)).bind fun o ho => ?_
    · obtain ⟨st, q, rfl⟩ : ∃ st, sts[i]? = some st ∧ x = .tuple [mkD i, .str (txt st)] := by
        obtain ⟨y, hy, rfl⟩ := enu_at hx
        rw [List.getElem?_map] at hy
        cases q : sts[i]? with
        | none =>
          rw [q] at hy
          cases hy
        | some st =>
          rw [q] at hy
          cases hy
          exact ⟨st, rfl, rfl⟩
      have ix : oIx (.list (sts.map stN)) (mkD i) = some (stN st) := oIx_l (f := stN) q
      simp only [un2_t, S.lift_some, S.ret_bind, ix]
      rw [szD_ok (by rw [List.length_map]; omega), S.lift_some, S.ret_bind, S.mapM_map, S.mapM_ret (g := fun t => PyData.bool (decide (st = t)))]
      · rw [S.ret_bind, szD_ok (by rw [List.length_map]; omega), S.lift_some, S.ret_bind, S.mapM_map, S.mapM_ret (g := fun t => PyData.bool (decide (st = t)))]
        · have eb : (sts.map fun t => PyData.bool (decide (st = t))) = (sts.map fun t => decide (st = t)).map .bool := by rw [List.map_map]; rfl
          rw [S.ret_bind, eb, cNe_bools, S.lift_some, S.ret_bind, if_neg Bool.false_ne_true]
          exact Can.ret trivial
        · intro t _
          rw [cEq_st, asB2_b, S.lift_some, S.noEx_ret]
      · intro t _
        rw [cEq_str, txt_eq, asB2_b, S.lift_some, S.noEx_ret]
    cases o with
    | nx s =>
      have d1 : ∀ x ∈ [((0 : Nat), (2 : Nat)), (1, 3)], x.1 ≤ 2000000000 ∧ x.2 ≤ 2000000000 := by decide
      have d2 : ∀ x ∈ [((0 : Nat), (1 : Nat)), (2, 0)], x.1 ≤ 2000000000 ∧ x.2 ≤ 2000000000 := by decide
      have e := T_field (s := ([(0, 2), (1, 3)], [(0, 1), (2, 0)])) ⟨by decide, by decide, d1, d2⟩
      simp only [flR]
      refine Can.eq (m' := S.ret (.bool true)) (Can.ret rfl) (S.bind_eq e ?_)
      have ec : fieldT [(0, 2), (1, 3)] [(0, 1), (2, 0)] = Str.ofString "0:2 1:3; 0@1 2@0" := by decide +kernel
      rw [ec, cEq_str, decide_eq_true rfl, asB2_b, S.lift_some]
    | _ => exact ho.elim
  | _ => exact ho.elim
noncomputable abbrev G__law_draw := GdrawEh
noncomputable abbrev G__law_deck := GdeckN 63
noncomputable abbrev F__law_deck : List Sv → M Sv := strip 2 G__law_deck
noncomputable abbrev G_law : Rho → M Out := gSeq (gSet 1 (callF F__law_deck 1 (argC (slot 0) argN))) R_law
noncomputable abbrev F_law : List Sv → M Sv := strip 11 G_law
theorem law_true (ns : List Int) (_ : ns.length ≤ 63) : ∃ μ, F_law [.scr ns] [] = some (.ok (.dat (.bool true)) μ) := law_start (N := 11) (by decide) (fun ns => deck_madeN (m := 63) (by decide) ns) tt_law can_law (by decide) ns
end Pf

set_option maxHeartbeats 1000000
namespace Pf
open PySem PySem.Spec PyProof.Rows L2
def topS (i : Nat) : Stmt := PySem.Challenge.pw_marktopples_k55_field_texts.main.body.getD i (.Pass ⟨0, 0, 0, 0⟩)
variable {P : Program} {w : World} {K : PySem.W.Frag} {mg : Str → Option Value} {base : Heap}
structure Top (mg : Str → Option Value) : Prop where
  m_abs : mg "abs" = none
  m_enumerate : mg "enumerate" = none
  m_int : mg "int" = none
  m_isinstance : mg "isinstance" = none
  m_len : mg "len" = none
  m_range : mg "range" = none
  m_repr : mg "repr" = none
  m_str : mg "str" = none
  m_tuple : mg "tuple" = none

abbrev s__law_deck : Stmt := topS 4
abbrev N__law_deck : List Str := ["_law_script", "_law_cell"]
theorem sc__law_deck : FnScope N__law_deck ["_law_script"] (defScope s__law_deck) := ⟨rfl, rfl, rfl, by decide +kernel, rfl, by decide +kernel, by decide +kernel⟩
theorem ok__law_deck (T : Top mg) {f : Addr} {fd : FuncData} (F : Fun K "_law_deck" "_law_deck" s__law_deck f fd) : Gk P w K mg base (L2.CX P w) 1 f fd ["_law_script"] (spM K 1 F__law_deck) := by
  refine gk_strip (k := 0) (l := 2) F sc__law_deck rfl rfl G__law_deck (fun cdv A below s H E hg hr => ?_)
  have nd : N__law_deck.Nodup := sc__law_deck.nd
  have hx : Passes (L2.CX P w) (bx P w K mg base N__law_deck "_law_deck" s__law_deck f cdv A below s H E) E := bx_pass
  have ho : PassesOwn (model P w) (bx P w K mg base N__law_deck "_law_deck" s__law_deck f cdv A below s H E).A (bx P w K mg base N__law_deck "_law_deck" s__law_deck f cdv A below s H E).env (bx P w K mg base N__law_deck "_law_deck" s__law_deck f cdv A below s H E).xe := bx_own
  exact (q_one (s_ret (x_lst true (a_cons (x_lc true rfl nd (own := [("_law_cell", 1)]) (i_seq (x_slice false (x_name 0) o_none (o_some x_int))) (blkOk_by (N := N__law_deck) (sc := defScope s__law_deck) (by decide +kernel)) (fun _ _ _ _ _ => (pw_nm 1 nd (by decide))) (fun _ _ _ _ _ => ts_nil) (fun _ _ _ _ _ => (x_callB b_abs rfl T.m_abs PyProof.Rows.boot_abs (a_cons (x_name 1) a_nil)))) (a_cons x_int a_nil)))))
abbrev s__law_draw : Stmt := topS 5
abbrev N__law_draw : List Str := ["_law_deck_here", "_law_many", "_law_cell", "_law_place"]
theorem sc__law_draw : FnScope N__law_draw ["_law_deck_here", "_law_many"] (defScope s__law_draw) := ⟨rfl, rfl, rfl, by decide +kernel, rfl, by decide +kernel, by decide +kernel⟩
theorem ok__law_draw (T : Top mg) {f : Addr} {fd : FuncData} (F : Fun K "_law_draw" "_law_draw" s__law_draw f fd) : Gk P w K mg base (L2.CX P w) 1 f fd ["_law_deck_here", "_law_many"] (spM K 2 F__law_draw) := by
  refine gk_of (k := 0) F sc__law_draw rfl G__law_draw (fun cdv A below s H E hg hr => ?_) same_drawEh
  have nd : N__law_draw.Nodup := sc__law_draw.nd
  have hx : Passes (L2.CX P w) (bx P w K mg base N__law_draw "_law_draw" s__law_draw f cdv A below s H E) E := bx_pass
  have ho : PassesOwn (model P w) (bx P w K mg base N__law_draw "_law_draw" s__law_draw f cdv A below s H E).A (bx P w K mg base N__law_draw "_law_draw" s__law_draw f cdv A below s H E).env (bx P w K mg base N__law_draw "_law_draw" s__law_draw f cdv A below s H E).xe := bx_own
  exact (q_cons (s_asg (x_bin o_add (x_ix o_ix (x_name 0) x_int) x_int) (pg_st (x_name 0) x_int (pg_sub (x_name 0) x_int set_list)))
  (q_cons (s_set 2 nd x_int)
  (q_cons (s_set 3 nd (x_ng x_int))
  (q_cons (s_if (t_cmp o_gt (x_callB b_len rfl T.m_len PySem.boot_len (a_cons (x_ix o_ix (x_name 0) x_int) a_nil)) x_int)
  (q_cons (s_set 3 nd (x_bin o_mod (x_ix o_ix (x_name 0) x_int) (x_callB b_len rfl T.m_len PySem.boot_len (a_cons (x_ix o_ix (x_name 0) x_int) a_nil))))
  (q_one (s_set 2 nd (x_ix o_ix (x_ix o_ix (x_name 0) x_int) (x_name 3)))))
  q_nil)
  (q_cons (s_if (t_cmp o_ge (x_name 2) (x_bin o_pow x_int x_int))
  (q_cons (s_asg (x_bin o_fdiv (x_name 2) (x_name 1)) (pg_st (x_ix o_ix (x_name 0) x_int) (x_name 3) (pg_sub (x_ix o_ix (x_name 0) x_int) (x_name 3) set_list)))
  (q_one (s_ret (x_bin o_mod (x_name 2) (x_name 1)))))
  q_nil)
  (q_one (s_ret (x_bin o_mod (x_bin o_mod (x_bin o_pow (x_bin o_add (x_bin o_add (x_bin o_mod (x_name 2) x_int) (x_bin o_mul x_int (x_ix o_ix (x_name 0) x_int))) x_int) x_int) x_int) (x_name 1)))))))))
abbrev s__law_tree : Stmt := topS 6
abbrev N__law_tree : List Str := ["_law_deck_here", "_law_most", "_law_long", "_law_parents", "_law_n", "_law_way", "_law_k", "_law_parent"]
theorem sc__law_tree : FnScope N__law_tree ["_law_deck_here", "_law_most", "_law_long"] (defScope s__law_tree) := ⟨rfl, rfl, rfl, by decide +kernel, rfl, by decide +kernel, by decide +kernel⟩
theorem ok__law_tree (T : Top mg) {f : Addr} {fd : FuncData} (F : Fun K "_law_tree" "_law_tree" s__law_tree f fd) {f__law_draw : Addr} {fd__law_draw : FuncData} (F_law_draw : Fun K "_law_draw" "_law_draw" s__law_draw f__law_draw fd__law_draw) (g__law_draw : mg "_law_draw" = some (.ref f__law_draw)) (b__law_draw : Binds K fd__law_draw ["_law_deck_here", "_law_many"] []) (C__law_draw : Gk P w K mg base (L2.CX P w) 1 f__law_draw fd__law_draw ["_law_deck_here", "_law_many"] (spM K 2 F__law_draw)) : Gk P w K mg base (L2.CX P w) 2 f fd ["_law_deck_here", "_law_most", "_law_long"] (spM K 3 F__law_tree) := by
  refine gk_of (k := 1) F sc__law_tree rfl G__law_tree (fun cdv A below s H E hg hr => ?_) same__law_tree
  have nd : N__law_tree.Nodup := sc__law_tree.nd
  have hx : Passes (L2.CX P w) (bx P w K mg base N__law_tree "_law_tree" s__law_tree f cdv A below s H E) E := bx_pass
  have ho : PassesOwn (model P w) (bx P w K mg base N__law_tree "_law_tree" s__law_tree f cdv A below s H E).A (bx P w K mg base N__law_tree "_law_tree" s__law_tree f cdv A below s H E).env (bx P w K mg base N__law_tree "_law_tree" s__law_tree f cdv A below s H E).xe := bx_own
  exact (q_cons (s_asg (x_tup (a_cons (x_bin o_add x_int (x_call1 C__law_draw hg hr g__law_draw F_law_draw.kp b__law_draw hx (a_cons (x_name 0) (a_cons (x_name 1) a_nil)))) (a_cons (x_call1 C__law_draw hg hr g__law_draw F_law_draw.kp b__law_draw hx (a_cons (x_name 0) (a_cons x_int a_nil))) a_nil))) (pg_tp 2 rfl (pgs_c (pg_nm 4 nd) (pgs_c (pg_nm 5 nd) pgs_0))))
  (q_cons (s_setLc 3 false rfl nd (sw_true rfl rfl rfl (by decide +kernel)) (own := [("_law_k", 6)]) (i_rng rfl T.m_range (x_bin o_sub (x_name 4) x_int)) (blkOk_by (N := N__law_tree) (sc := defScope s__law_tree) (by decide +kernel)) (fun _ _ _ _ _ => (pw_nm 6 nd (by decide))) (fun _ _ _ _ _ => ts_nil) (fun _ _ _ _ _ => (x_ix o_ix (x_lst false (a_cons (x_name 6) (a_cons x_int (a_cons (x_call1 C__law_draw hg hr g__law_draw F_law_draw.kp b__law_draw passL (a_cons (x_name 0) (a_cons (x_bin o_add (x_name 6) x_int) a_nil))) a_nil)))) (x_name 5))))
  (q_one (s_ret (x_callTy b_tuple rfl T.m_tuple (by decide +kernel) (a_cons (x_lc false rfl nd (own := [("_law_parent", 7)]) (i_seq (x_name 3)) (blkOk_by (N := N__law_tree) (sc := defScope s__law_tree) (by decide +kernel)) (fun _ _ _ _ _ => (pw_nm 7 nd (by decide))) (fun _ _ _ _ _ => ts_nil) (fun _ _ _ _ _ => (x_tup (a_cons (x_name 7) (a_cons (x_bin o_add x_int (x_call1 C__law_draw hg hr g__law_draw F_law_draw.kp b__law_draw passL (a_cons (x_name 0) (a_cons (x_name 2) a_nil)))) a_nil))))) a_nil))))))
abbrev s__law_pushes : Stmt := topS 7
abbrev N__law_pushes : List Str := ["_law_deck_here", "_law_tree_here", "_law_most", "_law_late", "_law_found", "_law_k", "_law_push"]
theorem sc__law_pushes : FnScope N__law_pushes ["_law_deck_here", "_law_tree_here", "_law_most", "_law_late"] (defScope s__law_pushes) := ⟨rfl, rfl, rfl, by decide +kernel, rfl, by decide +kernel, by decide +kernel⟩
theorem ok__law_pushes (T : Top mg) {f : Addr} {fd : FuncData} (F : Fun K "_law_pushes" "_law_pushes" s__law_pushes f fd) {f__law_draw : Addr} {fd__law_draw : FuncData} (F_law_draw : Fun K "_law_draw" "_law_draw" s__law_draw f__law_draw fd__law_draw) (g__law_draw : mg "_law_draw" = some (.ref f__law_draw)) (b__law_draw : Binds K fd__law_draw ["_law_deck_here", "_law_many"] []) (C__law_draw : Gk P w K mg base (L2.CX P w) 1 f__law_draw fd__law_draw ["_law_deck_here", "_law_many"] (spM K 2 F__law_draw)) : Gk P w K mg base (L2.CX P w) 2 f fd ["_law_deck_here", "_law_tree_here", "_law_most", "_law_late"] (spM K 4 F__law_pushes) := by
  refine gk_of (k := 1) F sc__law_pushes rfl G__law_pushes (fun cdv A below s H E hg hr => ?_) same__law_pushes
  have nd : N__law_pushes.Nodup := sc__law_pushes.nd
  have hx : Passes (L2.CX P w) (bx P w K mg base N__law_pushes "_law_pushes" s__law_pushes f cdv A below s H E) E := bx_pass
  have ho : PassesOwn (model P w) (bx P w K mg base N__law_pushes "_law_pushes" s__law_pushes f cdv A below s H E).A (bx P w K mg base N__law_pushes "_law_pushes" s__law_pushes f cdv A below s H E).env (bx P w K mg base N__law_pushes "_law_pushes" s__law_pushes f cdv A below s H E).xe := bx_own
  exact (q_cons (s_set 4 nd (x_lst true a_nil))
  (q_cons (s_for ho rfl (i_rng rfl T.m_range (x_call1 C__law_draw hg hr g__law_draw F_law_draw.kp b__law_draw hx (a_cons (x_name 0) (a_cons (x_bin o_add (x_name 2) x_int) a_nil)))) (pg_nm 5 nd)
  (q_cons (s_set 6 nd (x_tup (a_cons (x_call1 C__law_draw hg hr g__law_draw F_law_draw.kp b__law_draw hx (a_cons (x_name 0) (a_cons (x_bin o_add (x_callB b_len rfl T.m_len PySem.boot_len (a_cons (x_name 1) a_nil)) x_int) a_nil))) (a_cons (x_call1 C__law_draw hg hr g__law_draw F_law_draw.kp b__law_draw hx (a_cons (x_name 0) (a_cons (x_bin o_add (x_name 3) x_int) a_nil))) a_nil))))
  (q_one (s_expr (x_append (x_name 4) (x_if (t_w (w_and (t_cmp (o_ne (Room.units hr)) (x_name 4) (x_lst false a_nil)) (w_and1 (t_cmp (o_eq (Room.units hr)) (x_call1 C__law_draw hg hr g__law_draw F_law_draw.kp b__law_draw hx (a_cons (x_name 0) (a_cons x_int a_nil))) x_int)))) (x_ix o_ix (x_name 4) x_int) (x_name 6)))))))
  (q_one (s_ret (x_callTy b_tuple rfl T.m_tuple (by decide +kernel) (a_cons (x_name 4) a_nil))))))
abbrev s__law_state : Stmt := topS 8
abbrev N__law_state : List Str := ["_law_deck_here", "_law_marks", "_law_most", "_law_far", "_law_tree_here"]
theorem sc__law_state : FnScope N__law_state ["_law_deck_here", "_law_marks", "_law_most"] (defScope s__law_state) := ⟨rfl, rfl, rfl, by decide +kernel, rfl, by decide +kernel, by decide +kernel⟩
theorem ok__law_state (T : Top mg) {f : Addr} {fd : FuncData} (F : Fun K "_law_state" "_law_state" s__law_state f fd) {f__law_draw : Addr} {fd__law_draw : FuncData} (F_law_draw : Fun K "_law_draw" "_law_draw" s__law_draw f__law_draw fd__law_draw) (g__law_draw : mg "_law_draw" = some (.ref f__law_draw)) (b__law_draw : Binds K fd__law_draw ["_law_deck_here", "_law_many"] []) (C__law_draw : Gk P w K mg base (L2.CX P w) 1 f__law_draw fd__law_draw ["_law_deck_here", "_law_many"] (spM K 2 F__law_draw)) {f__law_tree : Addr} {fd__law_tree : FuncData} (F_law_tree : Fun K "_law_tree" "_law_tree" s__law_tree f__law_tree fd__law_tree) (g__law_tree : mg "_law_tree" = some (.ref f__law_tree)) (b__law_tree : Binds K fd__law_tree ["_law_deck_here", "_law_most", "_law_long"] []) (C__law_tree : Gk P w K mg base (L2.CX P w) 2 f__law_tree fd__law_tree ["_law_deck_here", "_law_most", "_law_long"] (spM K 3 F__law_tree)) {f__law_pushes : Addr} {fd__law_pushes : FuncData} (F_law_pushes : Fun K "_law_pushes" "_law_pushes" s__law_pushes f__law_pushes fd__law_pushes) (g__law_pushes : mg "_law_pushes" = some (.ref f__law_pushes)) (b__law_pushes : Binds K fd__law_pushes ["_law_deck_here", "_law_tree_here", "_law_most", "_law_late"] []) (C__law_pushes : Gk P w K mg base (L2.CX P w) 2 f__law_pushes fd__law_pushes ["_law_deck_here", "_law_tree_here", "_law_most", "_law_late"] (spM K 4 F__law_pushes)) : Gk P w K mg base (L2.CX P w) 3 f fd ["_law_deck_here", "_law_marks", "_law_most"] (spM K 3 F__law_state) := by
  refine gk_of (k := 2) F sc__law_state rfl G__law_state (fun cdv A below s H E hg hr => ?_) same__law_state
  have nd : N__law_state.Nodup := sc__law_state.nd
  have hx : Passes (L2.CX P w) (bx P w K mg base N__law_state "_law_state" s__law_state f cdv A below s H E) E := bx_pass
  have ho : PassesOwn (model P w) (bx P w K mg base N__law_state "_law_state" s__law_state f cdv A below s H E).A (bx P w K mg base N__law_state "_law_state" s__law_state f cdv A below s H E).env (bx P w K mg base N__law_state "_law_state" s__law_state f cdv A below s H E).xe := bx_own
  exact (q_cons (s_set 3 nd (x_cmp (o_eq (Room.units hr)) (x_call1 C__law_draw hg hr g__law_draw F_law_draw.kp b__law_draw hx (a_cons (x_name 0) (a_cons x_int a_nil))) x_int))
  (q_cons (s_set 4 nd (x_call1 C__law_tree hg hr g__law_tree F_law_tree.kp b__law_tree hx (a_cons (x_name 0) (a_cons (x_name 1) (a_cons (x_ix o_ix (x_lst false (a_cons x_int (a_cons (x_bin o_pow x_int x_int) a_nil))) (x_callTy b_int rfl T.m_int (by decide +kernel) (a_cons (x_name 3) a_nil))) a_nil)))))
  (q_one (s_ret (x_tup (a_cons (x_name 4) (a_cons (x_call1 C__law_pushes hg hr g__law_pushes F_law_pushes.kp b__law_pushes hx (a_cons (x_name 0) (a_cons (x_name 4) (a_cons (x_name 2) (a_cons (x_ix o_ix (x_lst false (a_cons x_int (a_cons (x_bin o_pow x_int x_int) a_nil))) (x_callTy b_int rfl T.m_int (by decide +kernel) (a_cons (x_name 3) a_nil))) a_nil))))) a_nil)))))))
abbrev s_push_text : Stmt := topS 2
abbrev N_push_text : List Str := ["mark", "tick"]
theorem sc_push_text : FnScope N_push_text ["mark", "tick"] (defScope s_push_text) := ⟨rfl, rfl, rfl, by decide +kernel, rfl, by decide +kernel, by decide +kernel⟩
theorem ok_push_text (T : Top mg) {f : Addr} {fd : FuncData} (F : Fun K "push_text" "push_text" s_push_text f fd) : Gk P w K mg base (L2.CX P w) 1 f fd ["mark", "tick"] (spM K 2 F_push_text) := by
  refine gk_of (k := 0) F sc_push_text rfl G_push_text (fun cdv A below s H E hg hr => ?_) same_push_text
  have nd : N_push_text.Nodup := sc_push_text.nd
  have hx : Passes (L2.CX P w) (bx P w K mg base N_push_text "push_text" s_push_text f cdv A below s H E) E := bx_pass
  have ho : PassesOwn (model P w) (bx P w K mg base N_push_text "push_text" s_push_text f cdv A below s H E).A (bx P w K mg base N_push_text "push_text" s_push_text f cdv A below s H E).env (bx P w K mg base N_push_text "push_text" s_push_text f cdv A below s H E).xe := bx_own
  exact (q_one (s_ret (x_fs (PJX.cons (x_fmt (x_name 0)) (PJX.cons x_str (PJX.cons (x_fmt (x_name 1)) PJX.nil))))))
abbrev s_field_text : Stmt := topS 1
abbrev N_field_text : List Str := ["tree", "pushes", "rows", "parent", "length", "mark", "tick"]
theorem sc_field_text : FnScope N_field_text ["tree", "pushes"] (defScope s_field_text) := ⟨rfl, rfl, rfl, by decide +kernel, rfl, by decide +kernel, by decide +kernel⟩
theorem ok_field_text (T : Top mg) {f : Addr} {fd : FuncData} (F : Fun K "field_text" "field_text" s_field_text f fd) {f_push_text : Addr} {fd_push_text : FuncData} (Fpush_text : Fun K "push_text" "push_text" s_push_text f_push_text fd_push_text) (g_push_text : mg "push_text" = some (.ref f_push_text)) (b_push_text : Binds K fd_push_text ["mark", "tick"] []) (C_push_text : Gk P w K mg base (L2.CX P w) 1 f_push_text fd_push_text ["mark", "tick"] (spM K 2 F_push_text)) : Gk P w K mg base (L2.CX P w) 2 f fd ["tree", "pushes"] (spM K 2 F_field_text) := by
  refine gk_of (k := 1) F sc_field_text rfl G_field_text (fun cdv A below s H E hg hr => ?_) same_field_text
  have nd : N_field_text.Nodup := sc_field_text.nd
  have hx : Passes (L2.CX P w) (bx P w K mg base N_field_text "field_text" s_field_text f cdv A below s H E) E := bx_pass
  have ho : PassesOwn (model P w) (bx P w K mg base N_field_text "field_text" s_field_text f cdv A below s H E).A (bx P w K mg base N_field_text "field_text" s_field_text f cdv A below s H E).env (bx P w K mg base N_field_text "field_text" s_field_text f cdv A below s H E).xe := bx_own
  exact (q_cons (s_set 2 nd (x_join (x_lc false rfl nd (own := [("parent", 3), ("length", 4)]) (i_seq (x_name 0)) (blkOk_by (N := N_field_text) (sc := defScope s_field_text) (by decide +kernel)) (fun _ _ _ _ _ => (pw_tp 2 rfl (pws_c (pw_nm 3 nd (by decide)) (pws_c (pw_nm 4 nd (by decide)) pws_0)))) (fun _ _ _ _ _ => ts_nil) (fun _ _ _ _ _ => (x_fs (PJX.cons (x_fmt (x_name 3)) (PJX.cons x_str (PJX.cons (x_fmt (x_name 4)) PJX.nil))))))))
  (q_one (s_ret (x_join (x_bin o_add (x_lst false (a_cons (x_bin o_add (x_name 2) x_str) a_nil)) (x_lc false rfl nd (own := [("mark", 5), ("tick", 6)]) (i_seq (x_name 1)) (blkOk_by (N := N_field_text) (sc := defScope s_field_text) (by decide +kernel)) (fun _ _ _ _ _ => (pw_tp 2 rfl (pws_c (pw_nm 5 nd (by decide)) (pws_c (pw_nm 6 nd (by decide)) pws_0)))) (fun _ _ _ _ _ => ts_nil) (fun _ _ _ _ _ => (x_call1 C_push_text hg hr g_push_text Fpush_text.kp b_push_text passL (a_cons (x_name 5) (a_cons (x_name 6) a_nil))))))))))
abbrev s__law_field_text : Stmt := topS 9
abbrev N__law_field_text : List Str := ["_law_state_here", "_law_rows", "_law_parent", "_law_length", "_law_mark", "_law_tick"]
theorem sc__law_field_text : FnScope N__law_field_text ["_law_state_here"] (defScope s__law_field_text) := ⟨rfl, rfl, rfl, by decide +kernel, rfl, by decide +kernel, by decide +kernel⟩
theorem ok__law_field_text (T : Top mg) {f : Addr} {fd : FuncData} (F : Fun K "_law_field_text" "_law_field_text" s__law_field_text f fd) : Gk P w K mg base (L2.CX P w) 1 f fd ["_law_state_here"] (spM K 1 F__law_field_text) := by
  refine gk_of (k := 0) F sc__law_field_text rfl G__law_field_text (fun cdv A below s H E hg hr => ?_) same__law_field_text
  have nd : N__law_field_text.Nodup := sc__law_field_text.nd
  have hx : Passes (L2.CX P w) (bx P w K mg base N__law_field_text "_law_field_text" s__law_field_text f cdv A below s H E) E := bx_pass
  have ho : PassesOwn (model P w) (bx P w K mg base N__law_field_text "_law_field_text" s__law_field_text f cdv A below s H E).A (bx P w K mg base N__law_field_text "_law_field_text" s__law_field_text f cdv A below s H E).env (bx P w K mg base N__law_field_text "_law_field_text" s__law_field_text f cdv A below s H E).xe := bx_own
  exact (q_cons (s_set 1 nd (x_join (x_lc false rfl nd (own := [("_law_parent", 2), ("_law_length", 3)]) (i_seq (x_ix o_ix (x_name 0) x_int)) (blkOk_by (N := N__law_field_text) (sc := defScope s__law_field_text) (by decide +kernel)) (fun _ _ _ _ _ => (pw_tp 2 rfl (pws_c (pw_nm 2 nd (by decide)) (pws_c (pw_nm 3 nd (by decide)) pws_0)))) (fun _ _ _ _ _ => ts_nil) (fun _ _ _ _ _ => (x_bin o_add (x_bin o_add (x_callTy b_str rfl T.m_str (by decide +kernel) (a_cons (x_name 2) a_nil)) x_str) (x_callTy b_str rfl T.m_str (by decide +kernel) (a_cons (x_name 3) a_nil)))))))
  (q_one (s_ret (x_join (x_bin o_add (x_lst false (a_cons (x_bin o_add (x_name 1) x_str) a_nil)) (x_lc false rfl nd (own := [("_law_mark", 4), ("_law_tick", 5)]) (i_seq (x_ix o_ix (x_name 0) x_int)) (blkOk_by (N := N__law_field_text) (sc := defScope s__law_field_text) (by decide +kernel)) (fun _ _ _ _ _ => (pw_tp 2 rfl (pws_c (pw_nm 4 nd (by decide)) (pws_c (pw_nm 5 nd (by decide)) pws_0)))) (fun _ _ _ _ _ => ts_nil) (fun _ _ _ _ _ => (x_bin o_add (x_bin o_add (x_callTy b_str rfl T.m_str (by decide +kernel) (a_cons (x_name 4) a_nil)) x_str) (x_callTy b_str rfl T.m_str (by decide +kernel) (a_cons (x_name 5) a_nil))))))))))
abbrev s_law : Stmt := topS 10
abbrev N_law : List Str := ["_law_script", "_law_deck_here", "_law_long_one", "_law_states", "_law_texts", "_law_tree_here", "_law_pushes_here", "_law_k", "_law_text", "_law_kept", "_law_other"]
theorem sc_law : FnScope N_law ["_law_script"] (defScope s_law) := ⟨rfl, rfl, rfl, by decide +kernel, rfl, by decide +kernel, by decide +kernel⟩
theorem ok_law (T : Top mg) {f : Addr} {fd : FuncData} (F : Fun K "law" "law" s_law f fd) {f__law_deck : Addr} {fd__law_deck : FuncData} (F_law_deck : Fun K "_law_deck" "_law_deck" s__law_deck f__law_deck fd__law_deck) (g__law_deck : mg "_law_deck" = some (.ref f__law_deck)) (b__law_deck : Binds K fd__law_deck ["_law_script"] []) (C__law_deck : Gk P w K mg base (L2.CX P w) 1 f__law_deck fd__law_deck ["_law_script"] (spM K 1 F__law_deck)) {f__law_state : Addr} {fd__law_state : FuncData} (F_law_state : Fun K "_law_state" "_law_state" s__law_state f__law_state fd__law_state) (g__law_state : mg "_law_state" = some (.ref f__law_state)) (b__law_state : Binds K fd__law_state ["_law_deck_here", "_law_marks", "_law_most"] []) (C__law_state : Gk P w K mg base (L2.CX P w) 3 f__law_state fd__law_state ["_law_deck_here", "_law_marks", "_law_most"] (spM K 3 F__law_state)) {f_field_text : Addr} {fd_field_text : FuncData} (Ffield_text : Fun K "field_text" "field_text" s_field_text f_field_text fd_field_text) (g_field_text : mg "field_text" = some (.ref f_field_text)) (b_field_text : Binds K fd_field_text ["tree", "pushes"] []) (C_field_text : Gk P w K mg base (L2.CX P w) 2 f_field_text fd_field_text ["tree", "pushes"] (spM K 2 F_field_text)) {f__law_field_text : Addr} {fd__law_field_text : FuncData} (F_law_field_text : Fun K "_law_field_text" "_law_field_text" s__law_field_text f__law_field_text fd__law_field_text) (g__law_field_text : mg "_law_field_text" = some (.ref f__law_field_text)) (b__law_field_text : Binds K fd__law_field_text ["_law_state_here"] []) (C__law_field_text : Gk P w K mg base (L2.CX P w) 1 f__law_field_text fd__law_field_text ["_law_state_here"] (spM K 1 F__law_field_text)) : Gk P w K mg base (L2.CX P w) 4 f fd ["_law_script"] (spM K 1 F_law) := by
  refine gk_strip (k := 3) (l := 11) F sc_law rfl rfl G_law (fun cdv A below s H E hg hr => ?_)
  have nd : N_law.Nodup := sc_law.nd
  have hx : Passes (L2.CX P w) (bx P w K mg base N_law "law" s_law f cdv A below s H E) E := bx_pass
  have ho : PassesOwn (model P w) (bx P w K mg base N_law "law" s_law f cdv A below s H E).A (bx P w K mg base N_law "law" s_law f cdv A below s H E).env (bx P w K mg base N_law "law" s_law f cdv A below s H E).xe := bx_own
  exact (q_cons (s_set 1 nd (x_call1 C__law_deck hg hr g__law_deck F_law_deck.kp b__law_deck hx (a_cons (x_name 0) a_nil)))
  (q_cons (s_set 2 nd (x_tup (a_cons (x_callTy b_tuple rfl T.m_tuple (by decide +kernel) (a_cons (x_bin o_mul (x_lst false (a_cons (x_tup (a_cons x_int (a_cons (x_bin o_pow x_int x_int) a_nil))) a_nil)) x_int) a_nil)) (a_cons (x_bin o_mulA (x_tup (a_cons (x_tup (a_cons x_int (a_cons (x_bin o_pow x_int x_int) a_nil))) (a_cons (x_tup (a_cons x_int (a_cons x_int a_nil))) a_nil))) x_int) a_nil))))
  (q_cons (s_set 3 nd (x_lst false (a_cons (x_tup (a_cons (x_tup a_nil) (a_cons (x_tup a_nil) a_nil))) (a_cons (x_tup (a_cons (x_tup a_nil) (a_cons (x_tup (a_cons (x_tup (a_cons x_int (a_cons x_int a_nil))) a_nil)) a_nil))) (a_cons (x_tup (a_cons (x_tup (a_cons (x_tup (a_cons x_int (a_cons x_int a_nil))) a_nil)) (a_cons (x_tup a_nil) a_nil))) (a_cons (x_name 2) (a_cons (x_tup (a_cons (x_tup (a_cons (x_tup (a_cons x_int (a_cons x_int a_nil))) (a_cons (x_tup (a_cons x_int (a_cons x_int a_nil))) a_nil))) (a_cons (x_tup (a_cons (x_tup (a_cons x_int (a_cons x_int a_nil))) a_nil)) a_nil))) a_nil)))))))
  (q_cons (s_set 3 nd (x_bin o_add (x_name 3) (x_lc false rfl nd (own := [("_law_k", 7)]) (i_rng rfl T.m_range x_int) (blkOk_by (N := N_law) (sc := defScope s_law) (by decide +kernel)) (fun _ _ _ _ _ => (pw_nm 7 nd (by decide))) (fun _ _ _ _ _ => ts_nil) (fun _ _ _ _ _ => (x_call1 C__law_state hg hr g__law_state F_law_state.kp b__law_state passL (a_cons (x_name 1) (a_cons x_int (a_cons x_int a_nil))))))))
  (q_cons (s_set 4 nd (x_lst true a_nil))
  (q_cons (s_for ho rfl (i_seq (x_name 3)) (pg_tp 2 rfl (pgs_c (pg_nm 5 nd) (pgs_c (pg_nm 6 nd) pgs_0)))
  (q_cons (s_asg (x_tup (a_cons (x_callB (b_repr hg (Room.units hr)) rfl T.m_repr (by decide +kernel) (a_cons (x_lst false (a_cons (x_name 5) (a_cons (x_name 6) a_nil))) a_nil)) (a_cons (x_call1 C_field_text hg hr g_field_text Ffield_text.kp b_field_text hx (a_cons (x_name 5) (a_cons (x_name 6) a_nil))) a_nil))) (pg_tp 2 rfl (pgs_c (pg_nm 9 nd) (pgs_c (pg_nm 8 nd) pgs_0))))
  (q_cons (s_if (t_w (w_or (t_not (t_val (x_isi rfl T.m_isinstance PyProof.Rows.boot_isinstance rfl T.m_str (by decide +kernel) (x_name 8)))) (w_or (t_cmp (o_ne (Room.units hr)) (x_name 8) (x_call1 C__law_field_text hg hr g__law_field_text F_law_field_text.kp b__law_field_text hx (a_cons (x_tup (a_cons (x_name 5) (a_cons (x_name 6) a_nil))) a_nil))) (w_or1 (t_cmp (o_ne (Room.units hr)) (x_call1 C_field_text hg hr g_field_text Ffield_text.kp b_field_text hx (a_cons (x_name 5) (a_cons (x_name 6) a_nil))) (x_name 8))))))
  (q_one (s_ret x_bl))
  q_nil)
  (q_cons (s_if (t_cmp (o_ne (Room.units hr)) (x_callB (b_repr hg (Room.units hr)) rfl T.m_repr (by decide +kernel) (a_cons (x_lst false (a_cons (x_name 5) (a_cons (x_name 6) a_nil))) a_nil)) (x_name 9))
  (q_one (s_ret x_bl))
  q_nil)
  (q_one (s_expr (x_append (x_name 4) (x_name 8))))))))
  (q_frz 4 (q_cons (s_for ho rfl (i_enuA rfl T.m_enumerate (x_name 4)) (pg_tp 2 rfl (pgs_c (pg_nm 7 nd) (pgs_c (pg_nm 8 nd) pgs_0)))
  (q_one (s_if (t_cmp (o_ne (Room.units hr)) (x_lc false rfl nd (own := [("_law_other", 10)]) (i_seq (x_name 4)) (blkOk_by (N := N_law) (sc := defScope s_law) (by decide +kernel)) (fun _ _ _ _ _ => (pw_nm 10 nd (by decide))) (fun _ _ _ _ _ => ts_nil) (fun _ _ _ _ _ => (x_cmp (o_eq (Room.units hr)) (x_name 8) (x_name 10)))) (x_lc false rfl nd (own := [("_law_other", 10)]) (i_seq (x_name 3)) (blkOk_by (N := N_law) (sc := defScope s_law) (by decide +kernel)) (fun _ _ _ _ _ => (pw_nm 10 nd (by decide))) (fun _ _ _ _ _ => ts_nil) (fun _ _ _ _ _ => (x_cmp (o_eq (Room.units hr)) (x_ix o_ix (x_name 3) (x_name 7)) (x_name 10)))))
  (q_one (s_ret x_bl))
  q_nil)))
  (q_one (s_ret (x_cmp (o_eq (Room.units hr)) (x_call1 C_field_text hg hr g_field_text Ffield_text.kp b_field_text hx (a_cons (x_tup (a_cons (x_tup (a_cons x_int (a_cons x_int a_nil))) (a_cons (x_tup (a_cons x_int (a_cons x_int a_nil))) a_nil))) (a_cons (x_tup (a_cons (x_tup (a_cons x_int (a_cons x_int a_nil))) (a_cons (x_tup (a_cons x_int (a_cons x_int a_nil))) a_nil))) a_nil))) x_str)))))))))))
theorem all_mk {l : PySem.W.OpenLaw} {w : World} {K : PySem.W.Frag} {h : Heap} {mg : Str → Option Value} {fa : Addr} (X : K.In h) (G : h.Ns mainGlobals mg) (hfa : mg "law" = some (.ref fa))
    {f_law_deck : Addr} {od_law_deck an_law_deck : Option Addr} {sl_law_deck : Array (Option Value)} {oc_law_deck kV_law_deck dc_law_deck pm_law_deck cd_law_deck ct_law_deck : Value}
    (a_law_deck : PySem.W.nsIn K mainGlobals "_law_deck" = some (some (.ref f_law_deck))) (l_law_deck : K.lookup f_law_deck = some ⟨oc_law_deck, od_law_deck, .func (PySem.W.fnOf "_law_deck" "_law_deck" (defArgs s__law_deck) (defBody s__law_deck) (defScope s__law_deck) .none kV_law_deck dc_law_deck pm_law_deck an_law_deck cd_law_deck ct_law_deck), sl_law_deck⟩) (c_law_deck : PySem.W.codeIn K cd_law_deck "_law_deck" = true) (k_law_deck : PySem.W.keepIn K (.ref f_law_deck) = true)
    {f_law_draw : Addr} {od_law_draw an_law_draw : Option Addr} {sl_law_draw : Array (Option Value)} {oc_law_draw kV_law_draw dc_law_draw pm_law_draw cd_law_draw ct_law_draw : Value}
    (a_law_draw : PySem.W.nsIn K mainGlobals "_law_draw" = some (some (.ref f_law_draw))) (l_law_draw : K.lookup f_law_draw = some ⟨oc_law_draw, od_law_draw, .func (PySem.W.fnOf "_law_draw" "_law_draw" (defArgs s__law_draw) (defBody s__law_draw) (defScope s__law_draw) .none kV_law_draw dc_law_draw pm_law_draw an_law_draw cd_law_draw ct_law_draw), sl_law_draw⟩) (c_law_draw : PySem.W.codeIn K cd_law_draw "_law_draw" = true) (k_law_draw : PySem.W.keepIn K (.ref f_law_draw) = true)
    {f_law_tree : Addr} {od_law_tree an_law_tree : Option Addr} {sl_law_tree : Array (Option Value)} {oc_law_tree kV_law_tree dc_law_tree pm_law_tree cd_law_tree ct_law_tree : Value}
    (a_law_tree : PySem.W.nsIn K mainGlobals "_law_tree" = some (some (.ref f_law_tree))) (l_law_tree : K.lookup f_law_tree = some ⟨oc_law_tree, od_law_tree, .func (PySem.W.fnOf "_law_tree" "_law_tree" (defArgs s__law_tree) (defBody s__law_tree) (defScope s__law_tree) .none kV_law_tree dc_law_tree pm_law_tree an_law_tree cd_law_tree ct_law_tree), sl_law_tree⟩) (c_law_tree : PySem.W.codeIn K cd_law_tree "_law_tree" = true) (k_law_tree : PySem.W.keepIn K (.ref f_law_tree) = true)
    {f_law_pushes : Addr} {od_law_pushes an_law_pushes : Option Addr} {sl_law_pushes : Array (Option Value)} {oc_law_pushes kV_law_pushes dc_law_pushes pm_law_pushes cd_law_pushes ct_law_pushes : Value}
    (a_law_pushes : PySem.W.nsIn K mainGlobals "_law_pushes" = some (some (.ref f_law_pushes))) (l_law_pushes : K.lookup f_law_pushes = some ⟨oc_law_pushes, od_law_pushes, .func (PySem.W.fnOf "_law_pushes" "_law_pushes" (defArgs s__law_pushes) (defBody s__law_pushes) (defScope s__law_pushes) .none kV_law_pushes dc_law_pushes pm_law_pushes an_law_pushes cd_law_pushes ct_law_pushes), sl_law_pushes⟩) (c_law_pushes : PySem.W.codeIn K cd_law_pushes "_law_pushes" = true) (k_law_pushes : PySem.W.keepIn K (.ref f_law_pushes) = true)
    {f_law_state : Addr} {od_law_state an_law_state : Option Addr} {sl_law_state : Array (Option Value)} {oc_law_state kV_law_state dc_law_state pm_law_state cd_law_state ct_law_state : Value}
    (a_law_state : PySem.W.nsIn K mainGlobals "_law_state" = some (some (.ref f_law_state))) (l_law_state : K.lookup f_law_state = some ⟨oc_law_state, od_law_state, .func (PySem.W.fnOf "_law_state" "_law_state" (defArgs s__law_state) (defBody s__law_state) (defScope s__law_state) .none kV_law_state dc_law_state pm_law_state an_law_state cd_law_state ct_law_state), sl_law_state⟩) (c_law_state : PySem.W.codeIn K cd_law_state "_law_state" = true) (k_law_state : PySem.W.keepIn K (.ref f_law_state) = true)
    {fpush_text : Addr} {odpush_text anpush_text : Option Addr} {slpush_text : Array (Option Value)} {ocpush_text kVpush_text dcpush_text pmpush_text cdpush_text ctpush_text : Value}
    (apush_text : PySem.W.nsIn K mainGlobals "push_text" = some (some (.ref fpush_text))) (lpush_text : K.lookup fpush_text = some ⟨ocpush_text, odpush_text, .func (PySem.W.fnOf "push_text" "push_text" (defArgs s_push_text) (defBody s_push_text) (defScope s_push_text) .none kVpush_text dcpush_text pmpush_text anpush_text cdpush_text ctpush_text), slpush_text⟩) (cpush_text : PySem.W.codeIn K cdpush_text "push_text" = true) (kpush_text : PySem.W.keepIn K (.ref fpush_text) = true)
    {ffield_text : Addr} {odfield_text anfield_text : Option Addr} {slfield_text : Array (Option Value)} {ocfield_text kVfield_text dcfield_text pmfield_text cdfield_text ctfield_text : Value}
    (afield_text : PySem.W.nsIn K mainGlobals "field_text" = some (some (.ref ffield_text))) (lfield_text : K.lookup ffield_text = some ⟨ocfield_text, odfield_text, .func (PySem.W.fnOf "field_text" "field_text" (defArgs s_field_text) (defBody s_field_text) (defScope s_field_text) .none kVfield_text dcfield_text pmfield_text anfield_text cdfield_text ctfield_text), slfield_text⟩) (cfield_text : PySem.W.codeIn K cdfield_text "field_text" = true) (kfield_text : PySem.W.keepIn K (.ref ffield_text) = true)
    {f_law_field_text : Addr} {od_law_field_text an_law_field_text : Option Addr} {sl_law_field_text : Array (Option Value)} {oc_law_field_text kV_law_field_text dc_law_field_text pm_law_field_text cd_law_field_text ct_law_field_text : Value}
    (a_law_field_text : PySem.W.nsIn K mainGlobals "_law_field_text" = some (some (.ref f_law_field_text))) (l_law_field_text : K.lookup f_law_field_text = some ⟨oc_law_field_text, od_law_field_text, .func (PySem.W.fnOf "_law_field_text" "_law_field_text" (defArgs s__law_field_text) (defBody s__law_field_text) (defScope s__law_field_text) .none kV_law_field_text dc_law_field_text pm_law_field_text an_law_field_text cd_law_field_text ct_law_field_text), sl_law_field_text⟩) (c_law_field_text : PySem.W.codeIn K cd_law_field_text "_law_field_text" = true) (k_law_field_text : PySem.W.keepIn K (.ref f_law_field_text) = true)
    {flaw : Addr} {odlaw anlaw : Option Addr} {sllaw : Array (Option Value)} {oclaw kVlaw dclaw pmlaw cdlaw ctlaw : Value}
    (alaw : PySem.W.nsIn K mainGlobals "law" = some (some (.ref flaw))) (llaw : K.lookup flaw = some ⟨oclaw, odlaw, .func (PySem.W.fnOf "law" "law" (defArgs s_law) (defBody s_law) (defScope s_law) .none kVlaw dclaw pmlaw anlaw cdlaw ctlaw), sllaw⟩) (claw : PySem.W.codeIn K cdlaw "law" = true) (klaw : PySem.W.keepIn K (.ref flaw) = true)
    (z_abs : PySem.W.nsIn K mainGlobals "abs" = some none)
    (z_enumerate : PySem.W.nsIn K mainGlobals "enumerate" = some none)
    (z_int : PySem.W.nsIn K mainGlobals "int" = some none)
    (z_isinstance : PySem.W.nsIn K mainGlobals "isinstance" = some none)
    (z_len : PySem.W.nsIn K mainGlobals "len" = some none)
    (z_range : PySem.W.nsIn K mainGlobals "range" = some none)
    (z_repr : PySem.W.nsIn K mainGlobals "repr" = some none)
    (z_str : PySem.W.nsIn K mainGlobals "str" = some none)
    (z_tuple : PySem.W.nsIn K mainGlobals "tuple" = some none)
    : ∃ fd : FuncData, (∀ (s : Shared) (v : Value), BindsTo s fd ⟨[v], []⟩ [("_law_script", v)]) ∧ ∀ base : Heap, K.In base → base.Ns mainGlobals mg → Gk l.prog w K mg base (L2.CX l.prog w) 4 fa fd ["_law_script"] (spLaw F_law 63 K) := by
  have e := hfa.symm.trans (PySem.W.mg_of X G alaw)
  cases e
  have T : Top mg := ⟨PySem.W.mg_none_of X G z_abs, PySem.W.mg_none_of X G z_enumerate, PySem.W.mg_none_of X G z_int, PySem.W.mg_none_of X G z_isinstance, PySem.W.mg_none_of X G z_len, PySem.W.mg_none_of X G z_range, PySem.W.mg_none_of X G z_repr, PySem.W.mg_none_of X G z_str, PySem.W.mg_none_of X G z_tuple⟩
  have F_law_deck := fun_mk (st := s__law_deck) l_law_deck c_law_deck k_law_deck
  have b_law_deck := F_law_deck.binds (ps := ["_law_script"]) fun _ _ _ _ _ _ us hl => match us, hl with | [_], _ => rfl
  have g_law_deck := PySem.W.mg_of X G a_law_deck
  have F_law_draw := fun_mk (st := s__law_draw) l_law_draw c_law_draw k_law_draw
  have b_law_draw := F_law_draw.binds (ps := ["_law_deck_here", "_law_many"]) fun _ _ _ _ _ _ us hl => match us, hl with | [_, _], _ => rfl
  have g_law_draw := PySem.W.mg_of X G a_law_draw
  have F_law_tree := fun_mk (st := s__law_tree) l_law_tree c_law_tree k_law_tree
  have b_law_tree := F_law_tree.binds (ps := ["_law_deck_here", "_law_most", "_law_long"]) fun _ _ _ _ _ _ us hl => match us, hl with | [_, _, _], _ => rfl
  have g_law_tree := PySem.W.mg_of X G a_law_tree
  have F_law_pushes := fun_mk (st := s__law_pushes) l_law_pushes c_law_pushes k_law_pushes
  have b_law_pushes := F_law_pushes.binds (ps := ["_law_deck_here", "_law_tree_here", "_law_most", "_law_late"]) fun _ _ _ _ _ _ us hl => match us, hl with | [_, _, _, _], _ => rfl
  have g_law_pushes := PySem.W.mg_of X G a_law_pushes
  have F_law_state := fun_mk (st := s__law_state) l_law_state c_law_state k_law_state
  have b_law_state := F_law_state.binds (ps := ["_law_deck_here", "_law_marks", "_law_most"]) fun _ _ _ _ _ _ us hl => match us, hl with | [_, _, _], _ => rfl
  have g_law_state := PySem.W.mg_of X G a_law_state
  have Fpush_text := fun_mk (st := s_push_text) lpush_text cpush_text kpush_text
  have bpush_text := Fpush_text.binds (ps := ["mark", "tick"]) fun _ _ _ _ _ _ us hl => match us, hl with | [_, _], _ => rfl
  have gpush_text := PySem.W.mg_of X G apush_text
  have Ffield_text := fun_mk (st := s_field_text) lfield_text cfield_text kfield_text
  have bfield_text := Ffield_text.binds (ps := ["tree", "pushes"]) fun _ _ _ _ _ _ us hl => match us, hl with | [_, _], _ => rfl
  have gfield_text := PySem.W.mg_of X G afield_text
  have F_law_field_text := fun_mk (st := s__law_field_text) l_law_field_text c_law_field_text k_law_field_text
  have b_law_field_text := F_law_field_text.binds (ps := ["_law_state_here"]) fun _ _ _ _ _ _ us hl => match us, hl with | [_], _ => rfl
  have g_law_field_text := PySem.W.mg_of X G a_law_field_text
  have Flaw := fun_mk (st := s_law) llaw claw klaw
  refine ⟨PySem.W.fnOf "law" "law" (defArgs s_law) (defBody s_law) (defScope s_law) .none kVlaw dclaw pmlaw anlaw cdlaw ctlaw, fun s v => .of_eq rfl, fun base _ _ => ?_⟩
  have C_law_deck := ok__law_deck (P := l.prog) (w := w) (base := base) T F_law_deck   
  have C_law_draw := ok__law_draw (P := l.prog) (w := w) (base := base) T F_law_draw   
  have C_law_tree := ok__law_tree (P := l.prog) (w := w) (base := base) T F_law_tree   F_law_draw g_law_draw b_law_draw C_law_draw
  have C_law_pushes := ok__law_pushes (P := l.prog) (w := w) (base := base) T F_law_pushes   F_law_draw g_law_draw b_law_draw C_law_draw
  have C_law_state := ok__law_state (P := l.prog) (w := w) (base := base) T F_law_state   F_law_draw g_law_draw b_law_draw C_law_draw F_law_tree g_law_tree b_law_tree C_law_tree F_law_pushes g_law_pushes b_law_pushes C_law_pushes
  have Cpush_text := ok_push_text (P := l.prog) (w := w) (base := base) T Fpush_text   
  have Cfield_text := ok_field_text (P := l.prog) (w := w) (base := base) T Ffield_text   Fpush_text gpush_text bpush_text Cpush_text
  have C_law_field_text := ok__law_field_text (P := l.prog) (w := w) (base := base) T F_law_field_text   
  have Claw := ok_law (P := l.prog) (w := w) (base := base) T Flaw   F_law_deck g_law_deck b_law_deck C_law_deck F_law_state g_law_state b_law_state C_law_state Ffield_text gfield_text bfield_text Cfield_text F_law_field_text g_law_field_text b_law_field_text C_law_field_text
  exact Claw
end Pf
open PySem PySem.W PyProof.Rows
set_option maxHeartbeats 0 in
theorem PySem.Challenge.cw_marktopples_k55_field_texts_holds : PySem.Challenge.rw_marktopples_k55_field_texts.Holds := by
  w_on; o_law; k_head; (case hw => w_witness2)
  k_fill
  refine Pf.law_walk (l := PySem.Challenge.rw_marktopples_k55_field_texts) (n := 63) (k := 4) (x := "_law_script") (sp := Pf.spLaw Pf.F_law 63) rfl (by decide) rfl ⟨rfl, by decide, by decide⟩ (fun w h Y => PySem.W.kIn_of Y) ?F (Pf.spLaw_of Pf.law_true)
  case F =>
    intro w mg fa h KX G hmg
    refine' Pf.all_mk KX G hmg ?a_law_deck ?l_law_deck ?c_law_deck ?k_law_deck ?a_law_draw ?l_law_draw ?c_law_draw ?k_law_draw ?a_law_tree ?l_law_tree ?c_law_tree ?k_law_tree ?a_law_pushes ?l_law_pushes ?c_law_pushes ?k_law_pushes ?a_law_state ?l_law_state ?c_law_state ?k_law_state ?apush_text ?lpush_text ?cpush_text ?kpush_text ?afield_text ?lfield_text ?cfield_text ?kfield_text ?a_law_field_text ?l_law_field_text ?c_law_field_text ?k_law_field_text ?alaw ?llaw ?claw ?klaw ?z_abs ?z_enumerate ?z_int ?z_isinstance ?z_len ?z_range ?z_repr ?z_str ?z_tuple
    (case a_law_deck => k_is); (case l_law_deck => k_is); (case c_law_deck => k_is); (case k_law_deck => k_is); (case a_law_draw => k_is); (case l_law_draw => k_is); (case c_law_draw => k_is); (case k_law_draw => k_is); (case a_law_tree => k_is); (case l_law_tree => k_is); (case c_law_tree => k_is); (case k_law_tree => k_is); (case a_law_pushes => k_is); (case l_law_pushes => k_is); (case c_law_pushes => k_is); (case k_law_pushes => k_is); (case a_law_state => k_is); (case l_law_state => k_is); (case c_law_state => k_is); (case k_law_state => k_is); (case apush_text => k_is); (case lpush_text => k_is); (case cpush_text => k_is); (case kpush_text => k_is); (case afield_text => k_is); (case lfield_text => k_is); (case cfield_text => k_is); (case kfield_text => k_is); (case a_law_field_text => k_is); (case l_law_field_text => k_is); (case c_law_field_text => k_is); (case k_law_field_text => k_is); (case alaw => k_is); (case llaw => k_is); (case claw => k_is); (case klaw => k_is); (case z_abs => k_is); (case z_enumerate => k_is); (case z_int => k_is); (case z_isinstance => k_is); (case z_len => k_is); (case z_range => k_is); (case z_repr => k_is); (case z_str => k_is); (case z_tuple => k_is)

