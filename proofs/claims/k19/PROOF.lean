import PyProof.Rows.All
import Wide.All
import OpenK.AllK
import Wide.FinOn
import HandS.ForMost
import HandS.TupAny
import HandS.Deep
import HandS.IsInst
import HandS.Lambda
import HandS.Style
import HandS.Zip
import HandS.ForExc
import HandS.FStrTup
import KE.GoesEnum
import PyProof.Conv_int_bool
import HandS.ExcField
import HandS.Defaults
import HandS.ExcOwn
import KE.KExcIs
import HandS.ExcIs
import HandS.TupMul
import KE.DataMinMax
import KE.DataEq
import KE.GoesZip
import KE.GoesMore
import HandS.AnyAll
import PyProof.Rows.CallKwBuiltin
import HandS.TryOnly
import HandS.HotCalls
import HandS.TupLe
import KE.DatumOrd
import HandS.EndTab
import KE.KNestM
import HandS.Star
import HandS.Text
import HandS.FStr
import HandS.Conv
import HandS.SortInts
import KE.SortData
import HandS.SetFor
import HandS.Strs
import HandS.TupSets
import PySem.Challenge.RW_marktopples_k19_fewest_pushes_shown
set_option Elab.async false
set_option linter.all false
set_option maxRecDepth 100000
/-! A pure reading of bodies: values as data, mutable objects by tags. -/
namespace Pf
open PySem PySem.Spec PyProof.Rows L2

/-! ### data -/
mutual
inductive Dq (K : PySem.W.Frag) (H : Hp) : V → PyData → Prop
  | non : Dq K H .non .none
  | bl (b : Bool) : Dq K H (.bl b) (.bool b)
  | int (i : Int) : Dq K H (.int i) (.int i)
  | str (x : Str) : Dq K H (.str x) (.str x)
  | lst {a : Addr} {xs : List V} {ds : List PyData} (h : H a = some (.lst xs)) (r : Dqs K H xs ds) : Dq K H (.ref a) (.list ds)
  | tup {a : Addr} {xs : List V} {ds : List PyData} (h : SqT K H a xs) (r : Dqs K H xs ds) : Dq K H (.ref a) (.tuple ds)
  | dct {a : Addr} {kvs : List (Key × V)} {ds : List (PyData × PyData)} (h : H a = some (.dK kvs)) (r : Dqk K H kvs ds) : Dq K H (.ref a) (.dict ds)
inductive Dqs (K : PySem.W.Frag) (H : Hp) : List V → List PyData → Prop
  | nil : Dqs K H [] []
  | cons {v : V} {vs : List V} {d : PyData} {ds : List PyData} (h : Dq K H v d) (r : Dqs K H vs ds) : Dqs K H (v :: vs) (d :: ds)
inductive Dqk (K : PySem.W.Frag) (H : Hp) : List (Key × V) → List (PyData × PyData) → Prop
  | nil : Dqk K H [] []
  | cons {k : Key} {v : V} {vs : List (Key × V)} {c d : PyData} {ds : List (PyData × PyData)} (hk : Dq K H (kV k) c) (h : Dq K H v d) (r : Dqk K H vs ds) : Dqk K H ((k, v) :: vs) ((c, d) :: ds)
end

theorem seqT_mono {K : PySem.W.Frag} {H H' : Hp} {a : Addr} {xs : List V} (e : Same H H') (h : SqT K H a xs) : SqT K H' a xs := by
  rcases h with (h | ⟨o, h⟩) | h
  · exact .inl (.inl (e _ _ h))
  · exact .inl (.inr ⟨o, e _ _ h⟩)
  · exact .inr h

section
variable {K : PySem.W.Frag} {H H' : Hp}
mutual
theorem Dq.mono (e : Same H H') : ∀ {v : V} {d : PyData}, Dq K H v d → Dq K H' v d
  | _, _, .non => .non
  | _, _, .bl b => .bl b
  | _, _, .int b => .int b
  | _, _, .str b => .str b
  | _, _, .lst h r => .lst (e _ _ h) (Dqs.mono e r)
  | _, _, .tup h r => .tup (seqT_mono e h) (Dqs.mono e r)
  | _, _, .dct h r => .dct (e _ _ h) (Dqk.mono e r)
theorem Dqs.mono (e : Same H H') : ∀ {v : List V} {d : List PyData}, Dqs K H v d → Dqs K H' v d
  | _, _, .nil => .nil
  | _, _, .cons h r => .cons (Dq.mono e h) (Dqs.mono e r)
theorem Dqk.mono (e : Same H H') : ∀ {v : List (Key × V)} {d : List (PyData × PyData)}, Dqk K H v d → Dqk K H' v d
  | _, _, .nil => .nil
  | _, _, .cons k h r => .cons (Dq.mono e k) (Dq.mono e h) (Dqk.mono e r)
end
end

theorem Dqs.len {K : PySem.W.Frag} {H : Hp} : ∀ {v : List V} {d : List PyData}, Dqs K H v d → v.length = d.length
  | _, _, .nil => rfl
  | _, _, .cons _ r => by rw [List.length_cons, List.length_cons, Dqs.len r]
theorem Dqs.get {K : PySem.W.Frag} {H : Hp} : ∀ {v : List V} {d : List PyData} {i : Nat} {x : V}, Dqs K H v d → v[i]? = some x → ∃ y, d[i]? = some y ∧ Dq K H x y
  | _, _, _, _, .nil, h => by simp at h
  | _, _, 0, _, .cons h r, q => by
    simp at q
    subst q
    exact ⟨_, rfl, h⟩
  | _, _, i + 1, _, .cons h r, q => by
    obtain ⟨y, e, z⟩ := Dqs.get (i := i) r (by simpa using q)
    exact ⟨y, by simpa using e, z⟩
theorem Dqs.getD {K : PySem.W.Frag} {H : Hp} {v : List V} {d : List PyData} {i : Nat} {y : PyData} (r : Dqs K H v d) (q : d[i]? = some y) : ∃ x, v[i]? = some x ∧ Dq K H x y := by
  have hi : i < v.length := by
    rw [r.len]
    exact (List.getElem?_eq_some_iff.mp q).1
  obtain ⟨z, e, h⟩ := r.get (List.getElem?_eq_getElem hi)
  rw [q] at e
  cases e
  exact ⟨_, List.getElem?_eq_getElem hi, h⟩
theorem Dqs.append {K : PySem.W.Frag} {H : Hp} : ∀ {v : List V} {d : List PyData} {v' : List V} {d' : List PyData}, Dqs K H v d → Dqs K H v' d' → Dqs K H (v ++ v') (d ++ d')
  | _, _, _, _, .nil, s => s
  | _, _, _, _, .cons h r, s => .cons h (Dqs.append r s)
theorem Dqs.take {K : PySem.W.Frag} {H : Hp} : ∀ {v : List V} {d : List PyData} (n : Nat), Dqs K H v d → Dqs K H (v.take n) (d.take n)
  | _, _, 0, _ => .nil
  | _, _, _ + 1, .nil => .nil
  | _, _, n + 1, .cons h r => .cons h (Dqs.take n r)
theorem Dqs.drop {K : PySem.W.Frag} {H : Hp} : ∀ {v : List V} {d : List PyData} (n : Nat), Dqs K H v d → Dqs K H (v.drop n) (d.drop n)
  | _, _, 0, r => r
  | _, _, _ + 1, .nil => .nil
  | _, _, n + 1, .cons _ r => Dqs.drop n r
theorem Dqs.reverse {K : PySem.W.Frag} {H : Hp} : ∀ {v : List V} {d : List PyData}, Dqs K H v d → Dqs K H v.reverse d.reverse
  | _, _, .nil => .nil
  | _, _, .cons h r => by
    rw [List.reverse_cons, List.reverse_cons]
    exact (Dqs.reverse r).append (.cons h .nil)

/-! ### reading the true heap -/
theorem Dqk.vals {K : PySem.W.Frag} {H : Hp} : ∀ {v : List (Key × V)} {d : List (PyData × PyData)}, Dqk K H v d → Dqs K H (v.map (·.2)) (d.map (·.2))
  | _, _, .nil => .nil
  | _, _, .cons _ h r => .cons h (Dqk.vals r)
theorem rel_key {k : Key} {v : Value} (h : keyIs k v = true) : RelV (kV k) v := by
  rcases keyIs_shape h with ⟨i, t, rfl, rfl⟩ | ⟨x, t, rfl, rfl⟩
  · exact ⟨t, rfl⟩
  · exact ⟨t, rfl⟩
theorem pair_vals {P : Program} {w : World} : ∀ {kvs : List (Key × V)} {vs : List (Key × Value)} {es : List DictEntry}, KV kvs vs → Pairs (mixKind P w) es vs → Vals (kvs.map fun p => kV p.1) (es.map (·.key)) ∧ Vals (kvs.map (·.2)) (es.map (·.val))
  | _, _, _, .nil, .nil => ⟨.nil, .nil⟩
  | _, _, _, .cons h r, .cons h1 h2 h3 => by
    obtain ⟨a, b⟩ := pair_vals r h3
    refine ⟨.cons ?_ a, .cons ?_ b⟩
    · dsimp only
      rw [h.1]
      exact rel_key h1
    · dsimp only
      rw [h2]
      exact h.2
/-- no list within -/
def bare : PyData → Bool
  | .list _ => false
  | .tuple ds => bareAll ds
  | .dict ds => bareKv ds
  | _ => true
where
  bareAll : List PyData → Bool
  | [] => true
  | d :: ds => bare d && bareAll ds
  bareKv : List (PyData × PyData) → Bool
  | [] => true
  | (c, d) :: ds => bare c && bare d && bareKv ds
section
variable {X : Cx} {pins : List (Addr × Obj)} {σ : L2.St} {H : Hp} {s : Shared}
/-- the modules' dict is no list: it is the kit's, or held as it is -/
def SmOk (K : PySem.W.Frag) (H : Hp) : Prop := (∃ om es ep, K.lookup sysModules = some om ∧ om.data = .dict es ep) ∨ ∃ om es ep, H sysModules = some (.frz om (.own 0)) ∧ om.data = .dict es ep
theorem SmOk.ext {K : PySem.W.Frag} {H H' : Hp} (h : SmOk K H) (e : Same H H') : SmOk K H' := by
  rcases h with h | ⟨om, es, ep, h1, h2⟩
  · exact .inl h
  · exact .inr ⟨om, es, ep, e _ _ h1, h2⟩
theorem SmOk.upd {K : PySem.W.Frag} {H : Hp} {q : Addr} {vs : List V} {ob : HO} (h : SmOk K H) (e : H q = some (.lst vs)) : SmOk K (L2.upd H q ob) := by
  rcases h with h | ⟨om, es, ep, h1, h2⟩
  · exact .inl h
  · exact .inr ⟨om, es, ep, by rw [upd_ne fun z => by rw [z, e] at h1; cases h1]; exact h1, h2⟩
theorem SmOk.dict {X : Cx} {pins : List (Addr × Obj)} {σ : L2.St} {H : Hp} {s : Shared} (h : SmOk X.K H) (I : Inv X pins σ H s) : ∃ om es ep, s.heap.get? sysModules = some om ∧ om.data = .dict es ep := by
  rcases h with ⟨om, es, ep, h1, h2⟩ | ⟨om, es, ep, h1, h2⟩
  · exact ⟨om, es, ep, I.kIn _ _ h1, h2⟩
  · exact ⟨om, es, ep, (I.hok _ _ h1).1, h2⟩
mutual
theorem Dq.reads (I : Inv X pins σ H s) : ∀ {v : V} {d : PyData} {u : Value}, Dq X.K H v d → RelV v u → ∃ as, Reads s.heap u d as ∧ (SmOk X.K H → sysModules ∉ as)
  | _, _, _, .non, r => by
    cases r
    exact ⟨_, Reads.none, fun _ z => nomatch z⟩
  | _, _, _, .bl b, r => by
    cases r
    exact ⟨_, Reads.bool b, fun _ z => nomatch z⟩
  | _, _, _, .int i, r => by
    obtain ⟨t, rfl⟩ := r
    exact ⟨_, Reads.int i t, fun _ z => nomatch z⟩
  | _, _, _, .str x, r => by
    obtain ⟨t, rfl⟩ := r
    exact ⟨_, Reads.str x t, fun _ z => nomatch z⟩
  | _, _, _, .lst hs ha, r => by
    cases r
    obtain ⟨its, rv, ⟨o, n, ho, hc, _, hd⟩, _⟩ := I.list (SqL.of hs)
    obtain ⟨as, hr, hb⟩ := Dqs.reads I ha rv
    refine ⟨_, Reads.list ho hc hd hr, fun z hm => ?_⟩
    rcases List.mem_cons.mp hm with hm | hm
    · obtain ⟨om, es, ep, e1, e2⟩ := z.dict I
      rw [hm, ho] at e1
      cases e1
      rw [hd] at e2
      cases e2
    · exact hb z hm
  | _, _, _, .tup hs ha, r => by
    cases r
    obtain ⟨its, rv, ⟨o, ho, hc, n, hd⟩, _⟩ := I.tuple hs
    obtain ⟨as, hr, hb⟩ := Dqs.reads I ha rv
    exact ⟨_, Reads.tuple ho hc hd hr, fun z => hb z⟩
  | _, _, _, .dct hs ha, r => by
    cases r
    obtain ⟨_, hsm, vs, kv, o, es, ep, ho, hx, hd, _, hp, _⟩ := I.hok _ _ hs
    obtain ⟨r1, r2⟩ := pair_vals kv hp
    obtain ⟨as, bs, q1, q2, hb⟩ := Dqk.reads I ha r1 r2
    refine ⟨_, Reads.dict ho hx.1 hd q1 q2, fun z => ?_⟩
    have z2 := hb z
    intro hm
    rcases List.mem_append.mp hm with hm | hm
    · rcases List.mem_cons.mp hm with hm | hm
      · rw [← hm] at hsm
        simp at hsm
      · exact z2.1 hm
    · exact z2.2 hm
theorem Dqs.reads (I : Inv X pins σ H s) : ∀ {vs : List V} {ds : List PyData} {us : List Value}, Dqs X.K H vs ds → Vals vs us → ∃ as, ReadsAll s.heap us ds as ∧ (SmOk X.K H → sysModules ∉ as)
  | _, _, _, .nil, r => by
    cases r
    exact ⟨_, ReadsAll.nil, fun _ z => nomatch z⟩
  | _, d :: ds, _, .cons h1 h2, r => by
    cases r with
    | cons r1 r2 =>
      obtain ⟨as, q1, b1⟩ := Dq.reads I h1 r1
      obtain ⟨bs, q2, b2⟩ := Dqs.reads I h2 r2
      refine ⟨_, ReadsAll.cons q1 q2, fun z hm => ?_⟩
      rcases List.mem_append.mp hm with hm | hm
      · exact b1 z hm
      · exact b2 z hm
theorem Dqk.reads (I : Inv X pins σ H s) : ∀ {kvs : List (Key × V)} {ds : List (PyData × PyData)} {ks us : List Value}, Dqk X.K H kvs ds → Vals (kvs.map fun p => kV p.1) ks → Vals (kvs.map (·.2)) us →
    ∃ as bs, ReadsAll s.heap ks (ds.map (·.1)) as ∧ ReadsAll s.heap us (ds.map (·.2)) bs ∧ (SmOk X.K H → sysModules ∉ as ∧ sysModules ∉ bs)
  | _, _, _, _, .nil, r1, r2 => by
    cases r1
    cases r2
    exact ⟨_, _, ReadsAll.nil, ReadsAll.nil, fun _ => ⟨fun z => (nomatch z), fun z => nomatch z⟩⟩
  | _, (c, d) :: ds, _, _, .cons hk h1 h2, r, r' => by
    cases r with
    | cons r1 r2 =>
      cases r' with
      | cons r3 r4 =>
        obtain ⟨cs, q0, b0⟩ := Dq.reads I hk r1
        obtain ⟨ds', q1, b1⟩ := Dq.reads I h1 r3
        obtain ⟨as, bs, q2, q3, b2⟩ := Dqk.reads I h2 r2 r4
        refine ⟨_, _, ReadsAll.cons q0 q2, ReadsAll.cons q1 q3, fun z => ?_⟩
        have z2 := b2 z
        refine ⟨fun hm => ?_, fun hm => ?_⟩
        · rcases List.mem_append.mp hm with hm | hm
          · exact b0 z hm
          · exact z2.1 hm
        · rcases List.mem_append.mp hm with hm | hm
          · exact b1 z hm
          · exact z2.2 hm
end
end

/-! ### mutable objects by tags, the state -/
/-- the tables of code objects that the law's lambdas are kept in, and the names of these -/
def lamT : List (Addr × Str) := [(269, (("law" : Str) ++ ".<locals>.") ++ "<lambda>")]
inductive Sv where
  | dat (d : PyData)
  | ref (t : Nat)
  | scr (ns : List Int)
inductive MObj where
  | lst (xs : List Sv)
  | gone
abbrev Mu := List MObj
abbrev Rho := List (Option Sv)
/-- a world: where the tagged objects stand, and the part of the heap that never changes -/
structure Wd where
  η : Nat → Addr
  S : Hp
def SvR (K : PySem.W.Frag) (W : Wd) (n : Nat) : V → Sv → Prop
  | v, .dat d => Dq K W.S v d
  | v, .ref t => t < n ∧ v = .ref (W.η t)
  | v, .scr ns => ∃ a, v = .ref a ∧ SqL K W.S a (ns.map V.int)
abbrev SvRs (K : PySem.W.Frag) (W : Wd) (n : Nat) : List V → List Sv → Prop := Paired (SvR K W n)
def ObR (K : PySem.W.Frag) (W : Wd) (n : Nat) (H : Hp) (a : Addr) : MObj → Prop
  | .lst xs => ∃ vs, H a = some (.lst vs) ∧ SvRs K W n vs xs
  | .gone => True
def alive : MObj → Bool
  | .gone => false
  | _ => true
structure Rel (K : PySem.W.Frag) (W : Wd) (H : Hp) (μ : Mu) : Prop where
  sub : Same W.S H
  obj : ∀ i o, μ[i]? = some o → ObR K W μ.length H (W.η i) o
  own : ∀ i o, μ[i]? = some o → alive o = true → W.S (W.η i) = none
  inj : ∀ i j o o', μ[i]? = some o → μ[j]? = some o' → alive o = true → alive o' = true → W.η i = W.η j → i = j
  tab : LamX.Tabs lamT H
  sm : SmOk K H
  nt : ∀ b ps, W.S b ≠ some (.tbl ps)
structure Gr0 (W : Wd) (n : Nat) (W' : Wd) (n' : Nat) : Prop where
  le : n ≤ n'
  same : Same W.S W'.S
  at_ : ∀ i, i < n → W'.η i = W.η i
theorem Gr0.refl (W : Wd) (n : Nat) : Gr0 W n W n := ⟨Nat.le_refl _, Same.refl _, fun _ _ => rfl⟩
theorem Gr0.trans {W W1 W2 : Wd} {n n1 n2 : Nat} (a : Gr0 W n W1 n1) (b : Gr0 W1 n1 W2 n2) : Gr0 W n W2 n2 :=
  ⟨Nat.le_trans a.le b.le, a.same.trans b.same, fun i h => (b.at_ i (Nat.lt_of_lt_of_le h a.le)).trans (a.at_ i h)⟩
theorem SvR.grow0 {K : PySem.W.Frag} {W W' : Wd} {n n' : Nat} (g : Gr0 W n W' n') : ∀ {v : V} {x : Sv}, SvR K W n v x → SvR K W' n' v x
  | _, .dat _, h => Dq.mono g.same h
  | _, .ref t, h => ⟨Nat.lt_of_lt_of_le h.1 g.le, by rw [h.2, g.at_ t h.1]⟩
  | _, .scr _, ⟨a, e, h⟩ => ⟨a, e, g.same.seq h⟩
theorem SvRs.grow0 {K : PySem.W.Frag} {W W' : Wd} {n n' : Nat} (g : Gr0 W n W' n') : ∀ {v : List V} {x : List Sv}, SvRs K W n v x → SvRs K W' n' v x
  | _, _, .nil => .nil
  | _, _, .cons h r => .cons (SvR.grow0 g h) (SvRs.grow0 g r)
theorem SvRs.len {K : PySem.W.Frag} {W : Wd} {n : Nat} {v : List V} {x : List Sv} (h : SvRs K W n v x) : v.length = x.length := Paired.length h
theorem SvRs.get {K : PySem.W.Frag} {W : Wd} {n : Nat} : ∀ {v : List V} {x : List Sv} {i : Nat} {y : Sv}, SvRs K W n v x → x[i]? = some y → ∃ u, v[i]? = some u ∧ SvR K W n u y
  | _, _, _, _, .nil, e => by simp at e
  | _, _, 0, _, .cons r _, e => by
    simp at e
    subst e
    exact ⟨_, rfl, r⟩
  | _, _, i + 1, y, .cons _ t, e => by
    obtain ⟨u, h1, h2⟩ := SvRs.get (i := i) (y := y) t (by simpa using e)
    exact ⟨u, by simpa using h1, h2⟩
theorem SvRs.set {K : PySem.W.Frag} {W : Wd} {n : Nat} {u : V} {y : Sv} (r : SvR K W n u y) : ∀ {v : List V} {x : List Sv} (i : Nat), SvRs K W n v x → SvRs K W n (v.set i u) (x.set i y)
  | _, _, _, .nil => .nil
  | _, _, 0, .cons _ t => .cons r t
  | _, _, i + 1, .cons q t => .cons q (SvRs.set r i t)
theorem SvRs.append {K : PySem.W.Frag} {W : Wd} {n : Nat} : ∀ {v v' : List V} {x x' : List Sv}, SvRs K W n v x → SvRs K W n v' x' → SvRs K W n (v ++ v') (x ++ x')
  | _, _, _, _, .nil, s => s
  | _, _, _, _, .cons r t, s => .cons r (SvRs.append t s)
/-- the data of a list of values -/
def dats : List Sv → Option (List PyData)
  | [] => some []
  | .dat d :: r => (dats r).map (d :: ·)
  | _ :: _ => none
theorem dats_rel {K : PySem.W.Frag} {W : Wd} {n : Nat} : ∀ {v : List V} {x : List Sv} {ds : List PyData}, SvRs K W n v x → dats x = some ds → Dqs K W.S v ds
  | _, _, _, .nil, e => by
    cases e
    exact .nil
  | _, .dat d :: r, _, .cons h t, e => by
    have e' : (dats r).map (d :: ·) = some _ := e
    cases q : dats r with
    | none =>
      rw [q] at e'
      cases e'
    | some z =>
      rw [q] at e'
      cases e'
      exact .cons h (dats_rel t q)
  | _, .ref t :: r, _, .cons h _, e => by cases e
  | _, .scr t :: r, _, .cons h _, e => by cases e
theorem rel_dats {K : PySem.W.Frag} {W : Wd} {n : Nat} : ∀ {v : List V} {ds : List PyData}, Dqs K W.S v ds → SvRs K W n v (ds.map Sv.dat)
  | _, _, .nil => .nil
  | _, _, .cons h r => .cons h (rel_dats r)
theorem dats_map (ds : List PyData) : dats (ds.map Sv.dat) = some ds := by
  induction ds with
  | nil => rfl
  | cons d ds ih =>
    show (dats (ds.map Sv.dat)).map (d :: ·) = _
    rw [ih]
    rfl
/-- the slots -/
structure Sls (K : PySem.W.Frag) (W : Wd) (n : Nat) (σ : L2.St) (ρ : Rho) : Prop where
  at_ : ∀ (i : Nat) (x : Sv), ρ[i]? = some (some x) → ∃ v, σ[i]? = some (some v) ∧ SvR K W n v x
  len : σ.length = ρ.length
theorem Sls.grow0 {K : PySem.W.Frag} {W W' : Wd} {n n' : Nat} {σ : L2.St} {ρ : Rho} (g : Gr0 W n W' n') (h : Sls K W n σ ρ) : Sls K W' n' σ ρ :=
  ⟨fun i x e => let ⟨v, a, b⟩ := h.at_ i x e; ⟨v, a, b.grow0 g⟩, h.len⟩
theorem Sls.set {K : PySem.W.Frag} {W : Wd} {n : Nat} {σ : L2.St} {ρ : Rho} {v : V} {x : Sv} (h : Sls K W n σ ρ) (i : Nat) (r : SvR K W n v x) : Sls K W n (σ.set i (some v)) (ρ.set i (some x)) := by
  refine ⟨fun j y e => ?_, by rw [List.length_set, List.length_set, h.len]⟩
  by_cases hj : i = j
  · subst hj
    have hi : i < ρ.length := by
      have := (List.getElem?_eq_some_iff.mp e).1
      simpa using this
    rw [List.getElem?_set_self hi] at e
    cases e
    exact ⟨v, List.getElem?_set_self (by rw [h.len]; exact hi), r⟩
  · rw [List.getElem?_set_ne hj] at e
    obtain ⟨u, a, b⟩ := h.at_ j y e
    exact ⟨u, by rw [List.getElem?_set_ne hj]; exact a, b⟩
/-! ### heaps that grow -/
theorem same_new {H : Hp} {p : Addr} {o : HO} (h : H p = none) : Same H (upd H p o) := fun b x e => by
  rw [upd_ne (ne_of_none e h)]
  exact e
theorem same_both {S H : Hp} {p : Addr} {o : HO} (h : Same S H) : Same (upd S p o) (upd H p o) := fun b x e => by
  by_cases hb : b = p
  · subst hb
    rw [upd_same] at e ⊢
    exact e
  · rw [upd_ne hb] at e ⊢
    exact h b x e
section
variable {K : PySem.W.Frag} {W : Wd} {H : Hp} {μ : Mu} {p : Addr} {o : HO}
theorem Rel.free (R : Rel K W H μ) (hp : H p = none) : W.S p = none := R.sub.free hp
theorem Rel.apart (R : Rel K W H μ) (hp : H p = none) {i : Nat} {xs : List Sv} (e : μ[i]? = some (.lst xs)) : W.η i ≠ p := by
  obtain ⟨vs, h, _⟩ := R.obj i _ e
  exact ne_of_none h hp
/-- a new object, not followed -/
theorem Rel.lay (R : Rel K W H μ) (hp : H p = none) : Rel K W (upd H p o) μ where
  sub := R.sub.trans (same_new hp)
  obj := fun i ob e => by
    cases ob with
    | gone => trivial
    | lst xs =>
      obtain ⟨vs, h, r⟩ := R.obj i _ e
      exact ⟨vs, same_new hp _ _ h, r⟩
  own := R.own
  inj := R.inj
  tab := R.tab.ext (same_new hp)
  sm := R.sm.ext (same_new hp)
  nt := R.nt
/-- a new shared object -/
def Wd.put (W : Wd) (p : Addr) (o : HO) : Wd := ⟨W.η, upd W.S p o⟩
theorem Wd.put_grow {n : Nat} (h : W.S p = none) : Gr0 W n (W.put p o) n := ⟨Nat.le_refl _, same_new h, fun _ _ => rfl⟩
theorem Rel.share (R : Rel K W H μ) (hp : H p = none) (hn : ∀ ps, o ≠ .tbl ps := by intro _ z; cases z) : Rel K (W.put p o) (upd H p o) μ where
  sub := same_both R.sub
  obj := fun i ob e => by
    cases ob with
    | gone => trivial
    | lst xs =>
      obtain ⟨vs, h, r⟩ := R.obj i _ e
      exact ⟨vs, same_new hp _ _ h, SvRs.grow0 (Wd.put_grow (R.free hp)) r⟩
  own := fun i ob e ha => by
    cases ob with
    | gone => cases ha
    | lst xs =>
      show upd W.S p o (W.η i) = none
      rw [upd_ne (R.apart hp e)]
      exact R.own i _ e ha
  inj := R.inj
  tab := R.tab.ext (same_new hp)
  sm := R.sm.ext (same_new hp)
  nt := fun b ps e => by
    have e' : upd W.S p o b = some (.tbl ps) := e
    by_cases hb : b = p
    · subst hb
      rw [upd_same] at e'
      exact hn ps (Option.some.inj e')
    · rw [upd_ne hb] at e'
      exact R.nt b ps e'
theorem tabs_upd {H : Hp} {q : Addr} {vs : List V} {ob : HO} (t : LamX.Tabs lamT H) (h : H q = some (.lst vs)) : LamX.Tabs lamT (upd H q ob) := fun pr hpr => by
  obtain ⟨ps, h1, h2, h3⟩ := t pr hpr
  refine ⟨ps, by rw [upd_ne fun z => by rw [z, h] at h1; cases h1]; exact h1, h2, fun pos cv hc => ?_⟩
  obtain ⟨c, e1, e2⟩ := h3 pos cv hc
  have nc : c ≠ q := fun z => by
    rw [z, h] at e2
    unfold LamX.CodeO at e2
    cases e2
  exact ⟨c, e1, by rw [upd_ne nc]; exact e2⟩
/-- a new tagged list -/
def Wd.tag (W : Wd) (n : Nat) (p : Addr) : Wd := ⟨fun i => if i = n then p else W.η i, W.S⟩
theorem Wd.tag_grow {n : Nat} : Gr0 W n (W.tag n p) (n + 1) := ⟨Nat.le_succ _, Same.refl _, fun i h => if_neg (Nat.ne_of_lt h)⟩
theorem Wd.tag_self {n : Nat} : (W.tag n p).η n = p := if_pos rfl
theorem Wd.tag_old {n i : Nat} (h : i < n) : (W.tag n p).η i = W.η i := if_neg (Nat.ne_of_lt h)
theorem Rel.alloc (R : Rel K W H μ) (hp : H p = none) {vs : List V} {xs : List Sv} (r : SvRs K W μ.length vs xs) : Rel K (W.tag μ.length p) (upd H p (.lst vs)) (μ ++ [.lst xs]) := by
  have hl : (μ ++ [MObj.lst xs]).length = μ.length + 1 := by simp
  have split : ∀ i ob, (μ ++ [MObj.lst xs])[i]? = some ob → (i < μ.length ∧ μ[i]? = some ob) ∨ (i = μ.length ∧ ob = .lst xs) := fun i ob e => by
    by_cases hi : i < μ.length
    · rw [List.getElem?_append_left hi] at e
      exact .inl ⟨hi, e⟩
    · have hi2 : i < (μ ++ [MObj.lst xs]).length := (List.getElem?_eq_some_iff.mp e).1
      have : i = μ.length := by omega
      subst this
      rw [List.getElem?_append_right (Nat.le_refl _)] at e
      simp at e
      exact .inr ⟨rfl, e.symm⟩
  have nold : ∀ i ob, μ[i]? = some ob → alive ob = true → W.η i ≠ p := fun i ob e ha => by
    cases ob with
    | gone => cases ha
    | lst ys => exact R.apart hp e
  refine ⟨R.sub.trans (same_new hp), fun i ob e => ?_, fun i ob e ha => ?_, fun i j o1 o2 e1 e2 a1 a2 q => ?_, R.tab.ext (same_new hp), R.sm.ext (same_new hp), R.nt⟩
  · rw [hl]
    rcases split i ob e with ⟨hi, e⟩ | ⟨rfl, rfl⟩
    · rw [Wd.tag_old hi]
      cases ob with
      | gone => trivial
      | lst ys =>
        obtain ⟨us, h, q⟩ := R.obj i _ e
        exact ⟨us, same_new hp _ _ h, q.grow0 Wd.tag_grow⟩
    · rw [Wd.tag_self]
      exact ⟨vs, upd_same, r.grow0 Wd.tag_grow⟩
  · rcases split i ob e with ⟨hi, e⟩ | ⟨rfl, rfl⟩
    · rw [Wd.tag_old hi]
      exact R.own i ob e ha
    · rw [Wd.tag_self]
      exact R.free hp
  · rcases split i o1 e1 with ⟨hi, e1⟩ | ⟨rfl, rfl⟩
    · rcases split j o2 e2 with ⟨hj, e2⟩ | ⟨rfl, rfl⟩
      · rw [Wd.tag_old hi, Wd.tag_old hj] at q
        exact R.inj i j o1 o2 e1 e2 a1 a2 q
      · rw [Wd.tag_old hi, Wd.tag_self] at q
        exact absurd q (nold i o1 e1 a1)
    · rcases split j o2 e2 with ⟨hj, e2⟩ | ⟨rfl, rfl⟩
      · rw [Wd.tag_old hj, Wd.tag_self] at q
        exact absurd q.symm (nold j o2 e2 a2)
      · rfl
theorem at_set {α : Type} {l : List α} {t i : Nat} {x y : α} (h : (l.set t x)[i]? = some y) : (i = t ∧ y = x) ∨ (i ≠ t ∧ l[i]? = some y) := by
  by_cases hi : t = i
  · subst hi
    have hl : t < l.length := by
      have := (List.getElem?_eq_some_iff.mp h).1
      simpa using this
    rw [List.getElem?_set_self hl] at h
    cases h
    exact .inl ⟨rfl, rfl⟩
  · rw [List.getElem?_set_ne hi] at h
    exact .inr ⟨fun z => hi z.symm, h⟩
/-- a tagged list is written -/
theorem Rel.write (R : Rel K W H μ) {t : Nat} {ys : List Sv} (e : μ[t]? = some (.lst ys)) {vs : List V} {xs : List Sv} (r : SvRs K W μ.length vs xs) : Rel K W (upd H (W.η t) (.lst vs)) (μ.set t (.lst xs)) := by
  have hlen : (μ.set t (MObj.lst xs)).length = μ.length := List.length_set ..
  have hown := R.own t _ e rfl
  have ne : ∀ i ob, i ≠ t → μ[i]? = some ob → alive ob = true → W.η i ≠ W.η t := fun i ob hi q ha z => hi (R.inj i t ob _ q e ha rfl z)
  refine ⟨fun b x q => ?_, fun i ob q => ?_, fun i ob q ha => ?_, fun i j o1 o2 q1 q2 a1 a2 z => ?_, let ⟨_, h, _⟩ := R.obj t _ e; tabs_upd R.tab h, let ⟨_, h, _⟩ := R.obj t _ e; R.sm.upd h, R.nt⟩
  · have hb : b ≠ W.η t := fun z => by
      rw [z, hown] at q
      cases q
    rw [upd_ne hb]
    exact R.sub b x q
  · rw [hlen]
    rcases at_set q with ⟨rfl, rfl⟩ | ⟨hi, q⟩
    · exact ⟨vs, upd_same, r⟩
    · cases ob with
      | gone => trivial
      | lst zs =>
        obtain ⟨us, h, z⟩ := R.obj i _ q
        exact ⟨us, by rw [upd_ne (ne i _ hi q rfl)]; exact h, z⟩
  · rcases at_set q with ⟨rfl, rfl⟩ | ⟨hi, q⟩
    · exact hown
    · exact R.own i ob q ha
  · rcases at_set q1 with ⟨h1, h2⟩ | ⟨hi, p1⟩
    · rcases at_set q2 with ⟨h3, h4⟩ | ⟨hj, p2⟩
      · rw [h1, h3]
      · exact absurd (h1 ▸ z).symm (ne j o2 hj p2 a2)
    · rcases at_set q2 with ⟨h3, h4⟩ | ⟨hj, p2⟩
      · exact absurd (h3 ▸ z) (ne i o1 hi p1 a1)
      · exact R.inj i j o1 o2 p1 p2 a1 a2 z
/-- a tagged list becomes data -/
theorem Rel.freeze (R : Rel K W H μ) {t : Nat} {ys : List Sv} {ds : List PyData} (e : μ[t]? = some (.lst ys)) (hd : dats ys = some ds) :
    ∃ W', Gr0 W μ.length W' μ.length ∧ Rel K W' H (μ.set t .gone) ∧ Dq K W'.S (.ref (W.η t)) (.list ds) ∧ W'.η = W.η ∧ ∀ a, a ≠ W.η t → W'.S a = W.S a := by
  obtain ⟨vs, h, r⟩ := R.obj t _ e
  have hown := R.own t _ e rfl
  have g : Gr0 W μ.length (W.put (W.η t) (.lst vs)) μ.length := Wd.put_grow hown
  refine ⟨W.put (W.η t) (.lst vs), g, ⟨fun b x q => ?_, fun i ob q => ?_, fun i ob q ha => ?_, fun i j o1 o2 q1 q2 a1 a2 z => ?_, R.tab, R.sm, fun b ps q => ?_⟩, .lst upd_same (Dqs.mono g.same (dats_rel r hd)), rfl, fun a ha => upd_ne ha⟩
  · by_cases hb : b = W.η t
    · subst hb
      have q' : upd W.S (W.η t) (.lst vs) (W.η t) = some x := q
      rw [upd_same] at q'
      cases q'
      exact h
    · have q' : upd W.S (W.η t) (.lst vs) b = some x := q
      rw [upd_ne hb] at q'
      exact R.sub b x q'
  · rw [List.length_set]
    rcases at_set q with ⟨rfl, rfl⟩ | ⟨hi, q⟩
    · trivial
    · cases ob with
      | gone => trivial
      | lst zs =>
        obtain ⟨us, h, z⟩ := R.obj i _ q
        exact ⟨us, h, z.grow0 g⟩
  · rcases at_set q with ⟨rfl, rfl⟩ | ⟨hi, q⟩
    · cases ha
    · show upd W.S (W.η t) (.lst vs) (W.η i) = none
      rw [upd_ne fun z => hi (R.inj i t ob _ q e ha rfl z)]
      exact R.own i ob q ha
  · rcases at_set q1 with ⟨rfl, rfl⟩ | ⟨hi, q1⟩
    · cases a1
    · rcases at_set q2 with ⟨rfl, rfl⟩ | ⟨hj, q2⟩
      · cases a2
      · exact R.inj i j o1 o2 q1 q2 a1 a2 z
  · have q' : upd W.S (W.η t) (.lst vs) b = some (.tbl ps) := q
    by_cases hb : b = W.η t
    · subst hb
      rw [upd_same] at q'
      cases q'
    · rw [upd_ne hb] at q'
      exact R.nt b ps q'
end

/-! ### a step: what is shared stays, what no tag owns stays -/
def Loose (W : Wd) (μ : Mu) (a : Addr) : Prop := W.S a = none ∧ ∀ (t : Nat) (ob : MObj), μ[t]? = some ob → alive ob = true → W.η t ≠ a
structure Grow (W : Wd) (H : Hp) (μ : Mu) (W' : Wd) (H' : Hp) (μ' : Mu) : Prop where
  gr : Gr0 W μ.length W' μ'.length
  frm : ∀ a o, H a = some o → (∀ ps, o ≠ .tbl ps) → Loose W μ a → H' a = some o ∧ Loose W' μ' a
theorem Grow.same {W W' : Wd} {H H' : Hp} {μ μ' : Mu} (g : Grow W H μ W' H' μ') : Same W.S W'.S := g.gr.same
theorem Grow.at_ {W W' : Wd} {H H' : Hp} {μ μ' : Mu} (g : Grow W H μ W' H' μ') : ∀ i, i < μ.length → W'.η i = W.η i := g.gr.at_
theorem Grow.refl (W : Wd) (H : Hp) (μ : Mu) : Grow W H μ W H μ := ⟨Gr0.refl _ _, fun _ _ h _ l => ⟨h, l⟩⟩
theorem Grow.trans {W W1 W2 : Wd} {H H1 H2 : Hp} {μ μ1 μ2 : Mu} (a : Grow W H μ W1 H1 μ1) (b : Grow W1 H1 μ1 W2 H2 μ2) : Grow W H μ W2 H2 μ2 :=
  ⟨a.gr.trans b.gr, fun c o h n l => let ⟨h1, l1⟩ := a.frm c o h n l; b.frm c o h1 n l1⟩
theorem SvR.grow {K : PySem.W.Frag} {W W' : Wd} {H H' : Hp} {μ μ' : Mu} {v : V} {x : Sv} (g : Grow W H μ W' H' μ') (h : SvR K W μ.length v x) : SvR K W' μ'.length v x := h.grow0 g.gr
theorem SvRs.grow {K : PySem.W.Frag} {W W' : Wd} {H H' : Hp} {μ μ' : Mu} {v : List V} {x : List Sv} (g : Grow W H μ W' H' μ') (h : SvRs K W μ.length v x) : SvRs K W' μ'.length v x := h.grow0 g.gr
theorem Sls.grow {K : PySem.W.Frag} {W W' : Wd} {H H' : Hp} {μ μ' : Mu} {σ : L2.St} {ρ : Rho} (g : Grow W H μ W' H' μ') (h : Sls K W μ.length σ ρ) : Sls K W' μ'.length σ ρ := h.grow0 g.gr
section
variable {K : PySem.W.Frag} {W : Wd} {H : Hp} {μ : Mu} {p : Addr} {o : HO}
theorem grow_share (R : Rel K W H μ) (hp : H p = none) : Grow W H μ (W.put p o) (upd H p o) μ := ⟨Wd.put_grow (R.free hp), fun a x h _ l => ⟨same_new hp a x h, by show upd W.S p o a = none; rw [upd_ne (ne_of_none h hp)]; exact l.1, l.2⟩⟩
theorem grow_alloc (R : Rel K W H μ) (hp : H p = none) {xs : List Sv} {ob : HO} : Grow W H μ (W.tag μ.length p) (upd H p ob) (μ ++ [.lst xs]) := by
  have hl : (μ ++ [MObj.lst xs]).length = μ.length + 1 := by simp
  refine ⟨by rw [hl]; exact Wd.tag_grow, fun a x h _ l => ⟨same_new hp a x h, l.1, fun t u e ha => ?_⟩⟩
  by_cases hi : t < μ.length
  · rw [List.getElem?_append_left hi] at e
    rw [Wd.tag_old hi]
    exact l.2 t u e ha
  · have hi2 : t < (μ ++ [MObj.lst xs]).length := (List.getElem?_eq_some_iff.mp e).1
    have : t = μ.length := by omega
    subst this
    rw [Wd.tag_self]
    exact (ne_of_none h hp).symm
theorem grow_write {t : Nat} {ys xs : List Sv} {ob : HO} (e : μ[t]? = some (.lst ys)) : Grow W H μ W (upd H (W.η t) ob) (μ.set t (.lst xs)) := by
  refine ⟨by rw [List.length_set]; exact Gr0.refl _ _, fun a x h _ l => ⟨?_, l.1, fun i u q ha => ?_⟩⟩
  · rw [upd_ne fun z => l.2 t _ e rfl z.symm]
    exact h
  · rcases at_set q with ⟨h1, h2⟩ | ⟨hi, q⟩
    · rw [h1]
      exact l.2 t _ e rfl
    · exact l.2 i u q ha
theorem grow_freeze {t : Nat} {ys : List Sv} {W' : Wd} (e : μ[t]? = some (.lst ys)) (g : Gr0 W μ.length W' μ.length) (he : W'.η = W.η) (hs : ∀ a, a ≠ W.η t → W'.S a = W.S a) : Grow W H μ W' H (μ.set t .gone) := by
  refine ⟨by rw [List.length_set]; exact g, fun a x h _ l => ⟨h, by rw [hs a fun z => l.2 t _ e rfl z.symm]; exact l.1, fun i u q ha => ?_⟩⟩
  rw [he]
  rcases at_set q with ⟨h1, h2⟩ | ⟨hi, q⟩
  · rw [h1]
    exact l.2 t _ e rfl
  · exact l.2 i u q ha
/-- an object that no tag owns and nobody shares, out of sight -/
def hideA (H : Hp) (D : Addr) : Hp := fun a => if a = D then none else H a
theorem hide_self {H : Hp} {D : Addr} : hideA H D D = none := if_pos rfl
theorem hide_ne {H : Hp} {D a : Addr} (h : a ≠ D) : hideA H D a = H a := if_neg h
theorem hide_upd {H : Hp} {D : Addr} (h : H D = some o) : upd (hideA H D) D o = H := by
  funext a
  by_cases ha : a = D
  · subst ha
    rw [upd_same, h]
  · rw [upd_ne ha, hide_ne ha]
theorem Rel.hide (R : Rel K W H μ) {D : Addr} {us : List V} (hD : H D = some (.lst us)) (l : Loose W μ D) : Rel K W (hideA H D) μ where
  sub := fun a x e => by
    rw [hide_ne fun z => by rw [z, l.1] at e; cases e]
    exact R.sub a x e
  obj := fun i ob e => by
    cases ob with
    | gone => trivial
    | lst xs =>
      obtain ⟨vs, h, r⟩ := R.obj i _ e
      exact ⟨vs, by rw [hide_ne (l.2 i _ e rfl)]; exact h, r⟩
  own := R.own
  inj := R.inj
  tab := fun pr hpr => by
    obtain ⟨ps, h1, h2, h3⟩ := R.tab pr hpr
    refine ⟨ps, by rw [hide_ne fun z => by rw [z, hD] at h1; cases h1]; exact h1, h2, fun pos cv hc => ?_⟩
    obtain ⟨c, e1, e2⟩ := h3 pos cv hc
    have nc : c ≠ D := fun z => by
      rw [z, hD] at e2
      unfold LamX.CodeO at e2
      cases e2
    exact ⟨c, e1, by rw [hide_ne nc]; exact e2⟩
  sm := by
    rcases R.sm with h | ⟨om, es, ep, h1, h2⟩
    · exact .inl h
    · exact .inr ⟨om, es, ep, by rw [hide_ne fun z => by rw [z, hD] at h1; cases h1]; exact h1, h2⟩
  nt := R.nt
/-- .. is written -/
theorem Rel.loose (R : Rel K W H μ) {D : Addr} {us : List V} (hD : H D = some (.lst us)) (l : Loose W μ D) : Rel K W (upd H D o) μ where
  sub := fun a x e => by
    rw [upd_ne fun z => by rw [z, l.1] at e; cases e]
    exact R.sub a x e
  obj := fun i ob e => by
    cases ob with
    | gone => trivial
    | lst xs =>
      obtain ⟨vs, h, r⟩ := R.obj i _ e
      exact ⟨vs, by rw [upd_ne (l.2 i _ e rfl)]; exact h, r⟩
  own := R.own
  inj := R.inj
  tab := tabs_upd R.tab hD
  sm := R.sm.upd hD
  nt := R.nt
theorem Grow.out {W' : Wd} {H' H2 : Hp} {μ' : Mu} {D : Addr} (g : Grow W H μ W' H' μ') (hD : H D = none) (h2 : ∀ a, a ≠ D → H2 a = H' a) : Grow W H μ W' H2 μ' :=
  ⟨g.gr, fun a x h n l => let ⟨h1, l1⟩ := g.frm a x h n l; ⟨by rw [h2 a (ne_of_none h hD)]; exact h1, l1⟩⟩
theorem Rel.fresh (R : Rel K W H μ) (hp : H p = none) : Loose W μ p := ⟨R.free hp, fun t ob e ha => by
  cases ob with
  | gone => cases ha
  | lst xs => exact R.apart hp e⟩
end
end Pf

namespace Pf
open PySem PySem.Spec PyProof.Rows L2

/-! ### the monad -/
structure Exc where
  C : Str
  fld : Option (Str × Sv)
inductive Res (α : Type) where
  | ok (a : α) (μ : Mu)
  | ex (c : Exc) (μ : Mu)
def M (α : Type) : Type := Mu → Option (Res α)
def M.ret {α : Type} (a : α) : M α := fun μ => some (.ok a μ)
def M.fail {α : Type} : M α := fun _ => none
def M.thr {α : Type} (c : Exc) : M α := fun μ => some (.ex c μ)
def M.bind {α β : Type} (m : M α) (k : α → M β) : M β := fun μ =>
  match m μ with
  | some (.ok a μ') => k a μ'
  | some (.ex c μ') => some (.ex c μ')
  | none => none
instance : Monad M where
  pure := M.ret
  bind := M.bind
theorem bind_ok {α β : Type} {m : M α} {k : α → M β} {μ μ' : Mu} {a : α} (h : m μ = some (.ok a μ')) : M.bind m k μ = k a μ' := by
  unfold M.bind
  rw [h]
theorem bind_ex {α β : Type} {m : M α} {k : α → M β} {μ μ' : Mu} {c : Exc} (h : m μ = some (.ex c μ')) : M.bind m k μ = some (.ex c μ') := by
  unfold M.bind
  rw [h]
theorem bind_some {α β : Type} {m : M α} {k : α → M β} {μ : Mu} {r : Res β} (h : M.bind m k μ = some r) :
    (∃ a μ1, m μ = some (.ok a μ1) ∧ k a μ1 = some r) ∨ ∃ c μ1, m μ = some (.ex c μ1) ∧ r = .ex c μ1 := by
  unfold M.bind at h
  cases e : m μ with
  | none =>
    rw [e] at h
    cases h
  | some x =>
    rw [e] at h
    cases x with
    | ok a μ1 => exact .inl ⟨a, μ1, rfl, h⟩
    | ex c μ1 =>
      cases h
      exact .inr ⟨c, μ1, rfl, rfl⟩

/-! ### what is wanted -/
def ExcR (K : PySem.W.Frag) (W : Wd) (n : Nat) (c : Exc) (cls : Value) (d : Option Addr) (H : Hp) : Prop :=
  (∃ C : Addr, PySem.W.nsIn K mainGlobals c.C = some (some (.ref C)) ∧ cls = .ref C) ∧ match c.fld with
    | none => d = none
    | some (f, s) => ∃ dd v, d = some dd ∧ H dd = some (.xd [(f, v)]) ∧ SvR K W n v s
def Ko {α : Type} (K : PySem.W.Frag) (E : XK) (W : Wd) (H : Hp) (μ : Mu) (r : Res α) (P : Wd → Hp → α → Mu → Prop) : Prop :=
  match r with
  | .ok a μ' => ∀ W' H', Grow W H μ W' H' μ' → Rel K W' H' μ' → P W' H' a μ'
  | .ex c μ' => ∀ W' H' cls d, Grow W H μ W' H' μ' → Rel K W' H' μ' → ExcR K W' μ'.length c cls d H' → E cls d H'
theorem Ko.later {α : Type} {K : PySem.W.Frag} {E : XK} {W W1 : Wd} {H H1 : Hp} {μ μ1 : Mu} {r : Res α} {P : Wd → Hp → α → Mu → Prop} (g : Grow W H μ W1 H1 μ1) (h : Ko K E W H μ r P) : Ko K E W1 H1 μ1 r P := by
  cases r with
  | ok a μ' => exact fun W' H' g' R => h W' H' (g.trans g') R
  | ex c μ' => exact fun W' H' cls d g' R x => h W' H' cls d (g.trans g') R x
structure Here (K : PySem.W.Frag) (W : Wd) (σ : L2.St) (H : Hp) (ρ : Rho) (μ : Mu) : Prop where
  rel : Rel K W H μ
  sl : Sls K W μ.length σ ρ
theorem Here.next {K : PySem.W.Frag} {W W' : Wd} {σ : L2.St} {H H' : Hp} {ρ : Rho} {μ μ' : Mu} (h : Here K W σ H ρ μ) (g : Grow W H μ W' H' μ') (R : Rel K W' H' μ') : Here K W' σ H' ρ μ' := ⟨R, h.sl.grow g⟩
/-- the end of an expression -/
abbrev KoV (K : PySem.W.Frag) (E : XK) (W : Wd) (H : Hp) (μ : Mu) (r : Res Sv) (Q : VK) : Prop := Ko K E W H μ r fun W' H' s μ' => ∀ v, SvR K W' μ'.length v s → Q v H'
def tX (K : PySem.W.Frag) (E : XK) (F : Rho → M Sv) : TE := fun σ H Q => ∃ W ρ μ r, Here K W σ H ρ μ ∧ F ρ μ = some r ∧ KoV K E W H μ r Q
abbrev PX (X : Cx) (E : XK) (e : Expr) (F : Rho → M Sv) : Prop := PE X e (tX X.K E F)
def tT (K : PySem.W.Frag) (E : XK) (F : Rho → M Bool) : TT := fun σ H Q => ∃ W ρ μ r, Here K W σ H ρ μ ∧ F ρ μ = some r ∧ Ko K E W H μ r fun W' H' b μ' => Q b H'
abbrev PTX (X : Cx) (E : XK) (e : Expr) (F : Rho → M Bool) : Prop := PT X e (tT X.K E F)
def tAr (K : PySem.W.Frag) (E : XK) (F : Rho → M (List Sv)) : TA := fun σ H Q => ∃ W ρ μ r, Here K W σ H ρ μ ∧ F ρ μ = some r ∧ Ko K E W H μ r fun W' H' ss μ' => ∀ vs, SvRs K W' μ'.length vs ss → Q vs H'
abbrev PAX (X : Cx) (E : XK) (es : List Expr) (F : Rho → M (List Sv)) : Prop := PA X es (tAr X.K E F)
theorem pe_weak {X : Cx} {e : Expr} {t t' : TE} (h : PE X e t) (w : ∀ σ H Q, t' σ H Q → t σ H Q) : PE X e t' := ⟨fun pins s σ H Q I q => h.run pins s σ H Q I (w _ _ _ q)⟩
theorem pt_weak {X : Cx} {e : Expr} {t t' : TT} (h : PT X e t) (w : ∀ σ H Q, t' σ H Q → t σ H Q) : PT X e t' := ⟨fun pins s σ H Q I q => h.run pins s σ H Q I (w _ _ _ q)⟩
theorem pa_weak {X : Cx} {e : List Expr} {t t' : TA} (h : PA X e t) (w : ∀ σ H Q, t' σ H Q → t σ H Q) : PA X e t' := ⟨fun pos pins s σ H Q I q => h.run pos pins s σ H Q I (w _ _ _ q)⟩
theorem ps_weak {X : Cx} {e : Stmt} {t t' : TS} (h : PS X e t) (w : ∀ D σ H, t' D σ H → t D σ H) : PS X e t' := ⟨fun pins s σ H D I q => h.run pins s σ H D I (w _ _ _ q)⟩
theorem pss_weak {X : Cx} {e : List Stmt} {t t' : TS} (h : PSs X e t) (w : ∀ D σ H, t' D σ H → t D σ H) : PSs X e t' := ⟨fun pins s σ H D I q => h.run pins s σ H D I (w _ _ _ q)⟩

section
variable {K : PySem.W.Frag} {E : XK} {W : Wd} {σ : L2.St} {H : Hp} {ρ : Rho} {μ : Mu} {α : Type}
theorem tX_bind {F : Rho → M Sv} {k : Sv → M α} {r : Res α} {P : Wd → Hp → α → Mu → Prop} {Q : VK} (h : Here K W σ H ρ μ) (e : M.bind (F ρ) k μ = some r) (q : Ko K E W H μ r P)
    (step : ∀ v s W1 H1 μ1, Grow W H μ W1 H1 μ1 → Here K W1 σ H1 ρ μ1 → SvR K W1 μ1.length v s → k s μ1 = some r → Ko K E W1 H1 μ1 r P → Q v H1) : tX K E F σ H Q := by
  rcases bind_some e with ⟨a, μ1, e1, e2⟩ | ⟨c, μ1, e1, rfl⟩
  · exact ⟨W, ρ, μ, _, h, e1, fun W1 H1 g R v hv => step v a W1 H1 μ1 g (h.next g R) hv e2 (q.later g)⟩
  · exact ⟨W, ρ, μ, _, h, e1, q⟩
theorem tT_bind {F : Rho → M Bool} {k : Bool → M α} {r : Res α} {P : Wd → Hp → α → Mu → Prop} {Q : Bool → Hp → Prop} (h : Here K W σ H ρ μ) (e : M.bind (F ρ) k μ = some r) (q : Ko K E W H μ r P)
    (step : ∀ b W1 H1 μ1, Grow W H μ W1 H1 μ1 → Here K W1 σ H1 ρ μ1 → k b μ1 = some r → Ko K E W1 H1 μ1 r P → Q b H1) : tT K E F σ H Q := by
  rcases bind_some e with ⟨a, μ1, e1, e2⟩ | ⟨c, μ1, e1, rfl⟩
  · exact ⟨W, ρ, μ, _, h, e1, fun W1 H1 g R => step a W1 H1 μ1 g (h.next g R) e2 (q.later g)⟩
  · exact ⟨W, ρ, μ, _, h, e1, q⟩
theorem tAr_bind {F : Rho → M (List Sv)} {k : List Sv → M α} {r : Res α} {P : Wd → Hp → α → Mu → Prop} {Q : List V → Hp → Prop} (h : Here K W σ H ρ μ) (e : M.bind (F ρ) k μ = some r) (q : Ko K E W H μ r P)
    (step : ∀ vs ss W1 H1 μ1, Grow W H μ W1 H1 μ1 → Here K W1 σ H1 ρ μ1 → SvRs K W1 μ1.length vs ss → k ss μ1 = some r → Ko K E W1 H1 μ1 r P → Q vs H1) : tAr K E F σ H Q := by
  rcases bind_some e with ⟨a, μ1, e1, e2⟩ | ⟨c, μ1, e1, rfl⟩
  · exact ⟨W, ρ, μ, _, h, e1, fun W1 H1 g R v hv => step v a W1 H1 μ1 g (h.next g R) hv e2 (q.later g)⟩
  · exact ⟨W, ρ, μ, _, h, e1, q⟩
end

/-! ### names, constants -/
def slot (i : Nat) (ρ : Rho) : M Sv := match ρ[i]? with
  | some (some s) => M.ret s
  | _ => M.fail
theorem slot_some {i : Nat} {ρ : Rho} {μ : Mu} {r : Res Sv} (h : slot i ρ μ = some r) : ∃ s, ρ[i]? = some (some s) ∧ r = .ok s μ := by
  unfold slot at h
  cases e : ρ[i]? with
  | none =>
    rw [e] at h
    cases h
  | some o =>
    rw [e] at h
    cases o with
    | none => cases h
    | some s =>
      cases h
      exact ⟨s, rfl, rfl⟩
def con (d : PyData) (ρ : Rho) : M Sv := M.ret (.dat d)
section
variable {X : Cx} {E : XK}
theorem x_name (i : Nat) {x : Str} {pos : Pos} (hN : X.N[i]? = some x := by rfl) (hv : Vis X.env.scope x := by first | exact Or.inl rfl | exact Or.inr (Or.inl rfl) | exact Or.inr (Or.inr rfl)) (hd : (x == ("__debug__" : Str)) = false := by decide)
    (hcd : (x == ("__classdict__" : Str)) = false := by decide) : PX X E (.Name x pos) (slot i) := pe_weak (pe_var hN hv hd hcd) fun σ H Q ⟨W, ρ, μ, r, h, e, q⟩ => by
  obtain ⟨s, hs, rfl⟩ := slot_some e
  obtain ⟨v, h1, h2⟩ := h.sl.at_ i s hs
  exact ⟨v, h1, q _ _ (Grow.refl _ _ _) h.rel _ h2⟩
theorem x_con {e : Expr} {v : V} {d : PyData} (h : PE X e (tC v)) (hd : ∀ H, Dq X.K H v d) : PX X E e (con d) := pe_weak h fun σ H Q ⟨W, ρ, μ, r, h, e, q⟩ => by
  cases e
  exact q _ _ (Grow.refl _ _ _) h.rel _ (hd _)
theorem x_int {i j pos} : PX X E (.Constant (.int i) j pos) (con (.int i)) := x_con pe_int fun _ => .int i
theorem x_bl {b j pos} : PX X E (.Constant (.bool b) j pos) (con (.bool b)) := x_con pe_bl fun _ => .bl b
theorem x_non {j pos} : PX X E (.Constant .none j pos) (con .none) := x_con pe_non fun _ => .non
theorem x_str {x j pos} : PX X E (.Constant (.str x) j pos) (con (.str x)) := x_con pe_str fun _ => .str x
/-! ### operators by values -/
def rO2 (K : PySem.W.Frag) (E : XK) (op : Sv → Sv → M Sv) : R2 := fun x y H Q => ∃ W μ a b r, Rel K W H μ ∧ SvR K W μ.length x a ∧ SvR K W μ.length y b ∧ op a b μ = some r ∧ KoV K E W H μ r Q
theorem opr_weak {f : Value → Value → Sem Value} {r r' : R2} (h : OpR X f r) (w : ∀ x y H Q, r' x y H Q → r x y H Q) : OpR X f r' := fun pins s σ H x y v u Q I rx ry q => h pins s σ H x y v u Q I rx ry (w _ _ _ _ q)
theorem ixr_weak {r r' : R2} (h : IxR X r) (w : ∀ x y H Q, r' x y H Q → r x y H Q) : IxR X r' := fun a b pins s σ H x y v u Q I rx ry q => h a b pins s σ H x y v u Q I rx ry (w _ _ _ _ q)
def bin (op : Sv → Sv → M Sv) (Fa Fb : Rho → M Sv) (ρ : Rho) : M Sv := (Fa ρ).bind fun a => (Fb ρ).bind fun b => op a b
theorem bin_ent {K : PySem.W.Frag} {op : Sv → Sv → M Sv} {Fa Fb : Rho → M Sv} {σ : L2.St} {H : Hp} {Q : VK} (h : tX K E (bin op Fa Fb) σ H Q) : tOp (rO2 K E op) (tX K E Fa) (tX K E Fb) σ H Q := by
  obtain ⟨W, ρ, μ, r, h, e, q⟩ := h
  refine tX_bind h e q fun v a W1 H1 μ1 g1 h1 ra e1 q1 => tX_bind h1 e1 q1 fun u b W2 H2 μ2 g2 h2 rb e2 q2 => ?_
  exact ⟨W2, μ2, a, b, r, h2.rel, ra.grow g2, rb, e2, q2⟩
variable {a b c : Expr} {Fa Fb Fc : Rho → M Sv} {op op' : Sv → Sv → M Sv} {pos : Pos}
theorem x_bin {o : Operator} (ho : OpR X (binaryOp o) (rO2 X.K E op)) (ha : PX X E a Fa) (hb : PX X E b Fb) : PX X E (.BinOp a o b pos) (bin op Fa Fb) := pe_weak (pe_op ho ha hb) fun _ _ _ h => bin_ent h
theorem x_cmp {o : CmpOp} (ho : OpR X (compareOp o) (rO2 X.K E op)) (ha : PX X E a Fa) (hb : PX X E b Fb) (hm : behindInMarks o b = false := by first | exact nobehind _ (by decide) (by decide) | rfl) : PX X E (.Compare a [o] [b] pos) (bin op Fa Fb) :=
  pe_weak (pe_cmpR ho ha hb hm) fun _ _ _ h => bin_ent h
theorem x_ix (ho : IxR X (rO2 X.K E op)) (ha : PX X E a Fa) (hb : PX X E b Fb) (hs : PlainIx b := by intro _ _; rfl) : PX X E (.Subscript a b pos) (bin op Fa Fb) := pe_weak (pe_ix ho ha hb hs) fun _ _ _ h => bin_ent h
/-- a bool out of a value that is one -/
def asB (s : Sv) : M Bool := match s with
  | .dat (.bool b) => M.ret b
  | _ => M.fail
theorem asB_some {s : Sv} {μ : Mu} {r : Res Bool} (h : asB s μ = some r) : ∃ b, s = .dat (.bool b) ∧ r = .ok b μ := by
  unfold asB at h
  split at h
  · cases h
    exact ⟨_, rfl, rfl⟩
  · cases h
/-! ### and, or, not, if: values that are bools -/
def andV (Fa Fb : Rho → M Sv) (ρ : Rho) : M Sv := (Fa ρ).bind fun a => (asB a).bind fun k => if k = true then Fb ρ else M.ret (.dat (.bool false))
theorem asB_bind {α : Type} {s : Sv} {k : Bool → M α} {μ : Mu} {r : Res α} (h : M.bind (asB s) k μ = some r) : ∃ b, s = .dat (.bool b) ∧ k b μ = some r := by
  rcases bind_some h with ⟨b, μ4, e4, e5⟩ | ⟨c, μ4, e4, rfl⟩
  · obtain ⟨k', rfl, ek⟩ := asB_some e4
    cases ek
    exact ⟨_, rfl, e5⟩
  · obtain ⟨_, _, z⟩ := asB_some e4
    cases z
theorem x_one {o} (h : PX X E a Fa) : PX X E (.BoolOp o [a] pos) Fa := pe_one h
theorem x_and {rest : List Expr} (ha : PX X E a Fa) (hb : PX X E (.BoolOp .And (b :: rest) pos) Fb) : PX X E (.BoolOp .And (a :: b :: rest) pos) (andV Fa Fb) := pe_weak (pe_and ha hb) fun σ H Q ⟨W, ρ, μ, r, h, e, q⟩ => by
  refine tX_bind h e q fun v a W1 H1 μ1 g1 h1 ra e1 q1 => ?_
  obtain ⟨k, rfl, e2⟩ := asB_bind e1
  cases ra
  refine ⟨k, rfl, ?_⟩
  cases k with
  | false =>
    rw [if_neg Bool.false_ne_true] at e2 ⊢
    cases e2
    exact q1 _ _ (Grow.refl _ _ _) h1.rel _ (.bl false)
  | true =>
    rw [if_pos rfl] at e2 ⊢
    exact ⟨W1, ρ, μ1, r, h1, e2, q1⟩
/-! ### tests -/
def tst (F : Rho → M Sv) (ρ : Rho) : M Bool := (F ρ).bind asB
theorem t_val (h : PX X E a Fa) (he : ∀ whole, isTrue a X.env whole = (do let v ← whole; standAt a.pos; holding [v] (truthy v)) := by intro _; rfl) : PTX X E a (tst Fa) := pt_weak (pt_val h he) fun σ H Q ⟨W, ρ, μ, r, h, e, q⟩ => by
  refine tX_bind h e q fun v a W1 H1 μ1 g1 h1 ra e1 q1 => ?_
  obtain ⟨b, rfl, rfl⟩ := asB_some e1
  cases ra
  exact ⟨b, rfl, q1 W1 H1 (Grow.refl _ _ _) h1.rel⟩
theorem tst_ent {K : PySem.W.Frag} {σ : L2.St} {H : Hp} {Q : Bool → Hp → Prop} (h : tT K E (tst (bin op Fa Fb)) σ H Q) : tTest (tOp (rO2 K E op) (tX K E Fa) (tX K E Fb)) σ H Q := by
  obtain ⟨W, ρ, μ, r, h, e, q⟩ := h
  refine bin_ent ?_
  refine tX_bind h e q fun v a W1 H1 μ1 g1 h1 ra e1 q1 => ?_
  obtain ⟨b, rfl, rfl⟩ := asB_some e1
  cases ra
  exact ⟨b, rfl, q1 W1 H1 (Grow.refl _ _ _) h1.rel⟩
theorem t_cmp {o : CmpOp} (ho : OpR X (compareOp o) (rO2 X.K E op)) (ha : PX X E a Fa) (hb : PX X E b Fb) (hm : behindInMarks o b = false := by first | exact nobehind _ (by decide) (by decide) | rfl) : PTX X E (.Compare a [o] [b] pos) (tst (bin op Fa Fb)) :=
  pt_weak (pt_cmpR ho ha hb hm) fun _ _ _ h => tst_ent h
def notT (F : Rho → M Bool) (ρ : Rho) : M Bool := (F ρ).bind fun k => M.ret (!k)
def andT (F G : Rho → M Bool) (ρ : Rho) : M Bool := (F ρ).bind fun k => if k = true then G ρ else M.ret false
def orT (F G : Rho → M Bool) (ρ : Rho) : M Bool := (F ρ).bind fun k => if k = true then M.ret true else G ρ
theorem t_not {F : Rho → M Bool} (ha : PTX X E a F) : PTX X E (.UnaryOp .Not a pos) (notT F) := pt_weak (pt_not ha) fun σ H Q ⟨W, ρ, μ, r, h, e, q⟩ => by
  refine tT_bind h e q fun k W1 H1 μ1 g1 h1 e1 q1 => ?_
  cases e1
  exact q1 W1 H1 (Grow.refl _ _ _) h1.rel
abbrev PWX (X : Cx) (E : XK) (e : Expr) (F : Rho → M Bool) : Prop := PW X e (tT X.K E F)
theorem pw_weak {X : Cx} {e : Expr} {t t' : TT} (h : PW X e t) (w : ∀ σ H Q, t' σ H Q → t σ H Q) : PW X e t' := ⟨fun wh pins s σ H Q I q => h.run wh pins s σ H Q I (w _ _ _ q)⟩
theorem w_and1 {F : Rho → M Bool} (ha : PTX X E a F) : PWX X E (.BoolOp .And [a] pos) F := pw_and1 ha
theorem w_or1 {F : Rho → M Bool} (ha : PTX X E a F) : PWX X E (.BoolOp .Or [a] pos) F := pw_or1 ha
theorem w_and {F G : Rho → M Bool} {rest : List Expr} (ha : PTX X E a F) (hb : PWX X E (.BoolOp .And (b :: rest) pos) G) : PWX X E (.BoolOp .And (a :: b :: rest) pos) (andT F G) := pw_weak (pw_and ha hb) fun σ H Q ⟨W, ρ, μ, r, h, e, q⟩ => by
  refine tT_bind h e q fun k W1 H1 μ1 g1 h1 e1 q1 => ?_
  cases k with
  | false =>
    rw [if_neg Bool.false_ne_true] at e1 ⊢
    cases e1
    exact q1 W1 H1 (Grow.refl _ _ _) h1.rel
  | true =>
    rw [if_pos rfl] at e1 ⊢
    exact ⟨W1, ρ, μ1, r, h1, e1, q1⟩
theorem w_or {F G : Rho → M Bool} {rest : List Expr} (ha : PTX X E a F) (hb : PWX X E (.BoolOp .Or (b :: rest) pos) G) : PWX X E (.BoolOp .Or (a :: b :: rest) pos) (orT F G) := pw_weak (pw_or ha hb) fun σ H Q ⟨W, ρ, μ, r, h, e, q⟩ => by
  refine tT_bind h e q fun k W1 H1 μ1 g1 h1 e1 q1 => ?_
  cases k with
  | true =>
    rw [if_pos rfl] at e1 ⊢
    cases e1
    exact q1 W1 H1 (Grow.refl _ _ _) h1.rel
  | false =>
    rw [if_neg Bool.false_ne_true] at e1 ⊢
    exact ⟨W1, ρ, μ1, r, h1, e1, q1⟩
theorem t_w {e : Expr} {F : Rho → M Bool} (h : PWX X E e F) : PTX X E e F := h.pt
end
end Pf

namespace Pf
open PySem PySem.Spec PyProof.Rows L2

/-! ### reading lists, laying new ones -/
/-- the items of a list (or tuple) value -/
def lsOf (s : Sv) : M (List Sv) := fun μ => match s with
  | .dat (.list ds) => some (.ok (ds.map Sv.dat) μ)
  | .ref t => match μ[t]? with
    | some (.lst xs) => some (.ok xs μ)
    | _ => none
  | _ => none
/-- a value as data, by reading -/
def rd (s : Sv) : M PyData := fun μ => match s with
  | .dat d => some (.ok d μ)
  | .ref t => match μ[t]? with
    | some (.lst xs) => (dats xs).map fun ds => .ok (.list ds) μ
    | _ => none
  | _ => none
/-- a new list: with a tag (it may be written), or as data -/
def mkl (m : Bool) (xs : List Sv) : M Sv := fun μ => match m with
  | true => some (.ok (.ref μ.length) (μ ++ [.lst xs]))
  | false => (dats xs).map fun ds => .ok (.dat (.list ds)) μ
def mkt (xs : List Sv) : M Sv := fun μ => (dats xs).map fun ds => .ok (.dat (.tuple ds)) μ
section
variable {K : PySem.W.Frag} {E : XK} {W : Wd} {H : Hp} {μ : Mu}
theorem lsOf_rel {s : Sv} {v : V} {r : Res (List Sv)} (R : Rel K W H μ) (h : SvR K W μ.length v s) (e : lsOf s μ = some r) : ∃ a vs xs, v = .ref a ∧ H a = some (.lst vs) ∧ SvRs K W μ.length vs xs ∧ r = .ok xs μ := by
  cases s with
  | dat d =>
    cases d with
    | list ds =>
      cases h with
      | lst h r =>
        cases e
        exact ⟨_, _, _, rfl, R.sub _ _ h, rel_dats r, rfl⟩
    | _ => cases e
  | ref t =>
    obtain ⟨_, rfl⟩ := h
    unfold lsOf at e
    cases q : μ[t]? with
    | none =>
      simp only [q] at e
      cases e
    | some o =>
      cases o with
      | gone =>
        simp only [q] at e
        cases e
      | lst xs =>
        simp only [q] at e
        cases e
        obtain ⟨vs, h1, h2⟩ := R.obj t _ q
        exact ⟨_, vs, xs, rfl, h1, h2, rfl⟩
  | scr ns => cases e
theorem rd_rel {s : Sv} {v : V} {r : Res PyData} (R : Rel K W H μ) (h : SvR K W μ.length v s) (e : rd s μ = some r) : ∃ d, r = .ok d μ ∧ Dq K H v d := by
  cases s with
  | dat d =>
    cases e
    exact ⟨d, rfl, Dq.mono R.sub h⟩
  | ref t =>
    obtain ⟨_, rfl⟩ := h
    unfold rd at e
    cases q : μ[t]? with
    | none =>
      simp only [q] at e
      cases e
    | some o =>
      cases o with
      | gone =>
        simp only [q] at e
        cases e
      | lst xs =>
        simp only [q] at e
        cases w : dats xs with
        | none =>
          rw [w] at e
          cases e
        | some ds =>
          rw [w] at e
          cases e
          obtain ⟨vs, h1, h2⟩ := R.obj t _ q
          exact ⟨_, rfl, .lst h1 (Dqs.mono R.sub (dats_rel h2 w))⟩
  | scr ns => cases e
theorem mkl_ok {m : Bool} {xs : List Sv} {vs : List V} {p : Addr} {r : Res Sv} {Q : VK} (R : Rel K W H μ) (hp : H p = none) (h : SvRs K W μ.length vs xs) (e : mkl m xs μ = some r) (q : KoV K E W H μ r Q) : Q (.ref p) (upd H p (.lst vs)) := by
  cases m with
  | true =>
    cases e
    have hl : (μ ++ [MObj.lst xs]).length = μ.length + 1 := by simp
    exact q _ _ (grow_alloc R hp) (R.alloc hp h) _ ⟨by omega, by rw [Wd.tag_self]⟩
  | false =>
    have e' : (dats xs).map (fun ds => Res.ok (Sv.dat (.list ds)) μ) = some r := e
    cases w : dats xs with
    | none =>
      rw [w] at e'
      cases e'
    | some ds =>
      rw [w] at e'
      cases e'
      have g : Grow W H μ (W.put p (.lst vs)) (upd H p (.lst vs)) μ := grow_share R hp
      exact q _ _ g (R.share hp) _ (.lst upd_same (Dqs.mono g.same (dats_rel h w)))
theorem mkt_ok {xs : List Sv} {vs : List V} {p : Addr} {r : Res Sv} {Q : VK} (R : Rel K W H μ) (hp : H p = none) (h : SvRs K W μ.length vs xs) (e : mkt xs μ = some r) (q : KoV K E W H μ r Q) : Q (.ref p) (upd H p (.tup vs)) := by
  have e' : (dats xs).map (fun ds => Res.ok (Sv.dat (.tuple ds)) μ) = some r := e
  cases w : dats xs with
  | none =>
    rw [w] at e'
    cases e'
  | some ds =>
    rw [w] at e'
    cases e'
    have g : Grow W H μ (W.put p (.tup vs)) (upd H p (.tup vs)) μ := grow_share R hp
    exact q _ _ g (R.share hp) _ (.tup (SqT.of upd_same) (Dqs.mono g.same (dats_rel h w)))
theorem dq_tup (R : Rel K W H μ) {p : Addr} {vs : List V} {ds : List PyData} {r : Res Sv} {Q : VK} (hp : H p = none) (h : Dqs K W.S vs ds) (e : (M.ret (.dat (.tuple ds)) : M Sv) μ = some r) (q : KoV K E W H μ r Q) : Q (.ref p) (upd H p (.tup vs)) := by
  cases e
  have g : Grow W H μ (W.put p (.tup vs)) (upd H p (.tup vs)) μ := grow_share R hp
  exact q _ _ g (R.share hp) _ (.tup (SqT.of upd_same) (Dqs.mono g.same h))
end

/-! ### data without dicts is the layer's -/
section
variable {K : PySem.W.Frag} {H : Hp}
mutual
theorem Dq.dp : ∀ {v : V} {d : PyData}, Dq K H v d → d.canLay0 = true → Dp K H v d
  | _, _, .non, _ => .non
  | _, _, .bl b, _ => .bl b
  | _, _, .int i, _ => .int i
  | _, _, .str x, _ => .str x
  | _, _, .lst h r, c => .lst (SqL.of h) (Dqs.dp r (by simpa [PyData.canLay0] using c))
  | _, _, .tup h r, c => .tup h (Dqs.dp r (by simpa [PyData.canLay0] using c))
  | _, _, .dct h r, c => by simp [PyData.canLay0] at c
theorem Dqs.dp : ∀ {v : List V} {d : List PyData}, Dqs K H v d → PyData.canLayAll0 d = true → DpAll K H v d
  | _, _, .nil, _ => .nil
  | _, d :: ds, .cons h r, c => by
    have c' : d.canLay0 = true ∧ PyData.canLayAll0 ds = true := by simpa [PyData.canLayAll0] using c
    exact .cons (Dq.dp h c'.1) (Dqs.dp r c'.2)
end
end

/-! ### the operators -/
def szOk (n : Nat) : Bool := decide (n ≤ 1000000)
theorem szOk_line {n : Nat} (h : szOk n = true) : n ≤ sizeLine := by
  have := of_decide_eq_true h
  rw [sizeLine_eq]
  omega
theorem szOk_lt {n : Nat} (h : szOk n = true) : n < sizeLine := by
  have := of_decide_eq_true h
  rw [sizeLine_eq]
  omega
def pAdd (m : Bool) (a b : Sv) : M Sv := match a, b with
  | .dat (.int i), .dat (.int j) => M.ret (.dat (.int (i + j)))
  | .dat (.tuple xs), .dat (.tuple ys) => if szOk (xs.length + ys.length) = true then M.ret (.dat (.tuple (xs ++ ys))) else M.fail
  | .dat (.str x), .dat (.str y) => if szOk (x.length + y.length) = true then M.ret (.dat (.str (x ++ y))) else M.fail
  | .dat (.list xs), b => (lsOf b).bind fun ys => if szOk (xs.length + ys.length) = true then mkl m (xs.map Sv.dat ++ ys) else M.fail
  | .ref t, b => (lsOf (.ref t)).bind fun xs => (lsOf b).bind fun ys => if szOk (xs.length + ys.length) = true then mkl m (xs ++ ys) else M.fail
  | _, _ => M.fail
def pSub (a b : Sv) : M Sv := match a, b with
  | .dat (.int i), .dat (.int j) => M.ret (.dat (.int (i - j)))
  | _, _ => M.fail
def small (i : Int) : Bool := decide (-(2 ^ 64) < i) && decide (i < 2 ^ 64)
def pMul (m : Bool) (a b : Sv) : M Sv := match a, b with
  | .dat (.int i), .dat (.int j) => if (small i || small j) = true then M.ret (.dat (.int (i * j))) else M.fail
  | .dat (.list xs), .dat (.int k) => if (small (2 * k) && szOk (xs.length * k.toNat)) = true then mkl m (List.replicate k.toNat (xs.map Sv.dat)).flatten else M.fail
  | _, _ => M.fail
def pFdiv (a b : Sv) : M Sv := match a, b with
  | .dat (.int i), .dat (.int j) => if (decide (0 < j) && decide (j < 1073741824)) = true then M.ret (.dat (.int (i / j))) else M.fail
  | _, _ => M.fail
def pMod (a b : Sv) : M Sv := match a, b with
  | .dat (.int i), .dat (.int j) => if decide (0 < j) = true then M.ret (.dat (.int (i % j))) else M.fail
  | _, _ => M.fail
def pPow (a b : Sv) : M Sv := match a, b with
  | .dat (.int i), .dat (.int j) => if (decide (0 ≤ j) && decide (j ≤ 1000000) && decide (i.natAbs < 2 ^ 64)) = true then M.ret (.dat (.int (i ^ j.toNat))) else M.fail
  | _, _ => M.fail
def pCmp (f : Int → Int → Bool) (a b : Sv) : M Sv := match a, b with
  | .dat (.int i), .dat (.int j) => M.ret (.dat (.bool (f i j)))
  | _, _ => M.fail
abbrev pLt := pCmp fun i j => decide (i < j)
abbrev pLe := pCmp fun i j => decide (i ≤ j)
abbrev pGt := pCmp fun i j => decide (j < i)
abbrev pGe := pCmp fun i j => decide (j ≤ i)
def pEqD (n : Bool) (a b : Sv) : M Sv := (rd a).bind fun d => (rd b).bind fun e => if (SeqAt.shaped d && SeqAt.shaped e) = true then M.ret (.dat (.bool (Bool.xor n (PyData.eqv d e)))) else M.fail
/-- == of two texts, of two ints; of other data -/
def pEqn (n : Bool) (a b : Sv) : M Sv := match a, b with
  | .dat (.str x), .dat (.str y) => M.ret (.dat (.bool (Bool.xor n (decide (x = y)))))
  | .dat (.int x), .dat (.int y) => M.ret (.dat (.bool (Bool.xor n (decide (x = y)))))
  | a, b => pEqD n a b
abbrev pEq := pEqn false
abbrev pNe := pEqn true
def isNon : Sv → Bool
  | .dat .none => true
  | _ => false
def pIs (n : Bool) (a b : Sv) : M Sv := match b with
  | .dat .none => M.ret (.dat (.bool (Bool.xor n (isNon a))))
  | _ => M.fail
def orFail {α : Type} (o : Option α) : M α := fun μ => o.map fun a => .ok a μ
def pIx (a b : Sv) : M Sv := match b with
  | .dat (.int i) => match a with
    | .dat (.tuple xs) => (orFail (atI xs i)).bind fun d => M.ret (.dat d)
    | .dat (.str z) => (orFail (if szOk z.length = true then atI z.cps.toList i else none)).bind fun c => M.ret (.dat (.str ⟨#[c]⟩))
    | a => (lsOf a).bind fun xs => orFail (atI xs i)
  | _ => M.fail
theorem iff_ok {α : Type} {c : Bool} {m : M α} {μ : Mu} {r : Res α} (h : (if c = true then m else M.fail) μ = some r) : c = true ∧ m μ = some r := by
  cases c with
  | true =>
    rw [if_pos rfl] at h
    exact ⟨rfl, h⟩
  | false =>
    rw [if_neg Bool.false_ne_true] at h
    cases h
theorem orFail_some {α β : Type} {o : Option α} {k : α → M β} {μ : Mu} {r : Res β} (h : M.bind (orFail o) k μ = some r) : ∃ a, o = some a ∧ k a μ = some r := by
  cases o with
  | none => cases h
  | some a => exact ⟨a, rfl, h⟩
theorem lsOf_bind {α : Type} {s : Sv} {k : List Sv → M α} {μ : Mu} {r : Res α} (h : M.bind (lsOf s) k μ = some r) : ∃ xs, lsOf s μ = some (.ok xs μ) ∧ k xs μ = some r := by
  rcases bind_some h with ⟨xs, μ1, e1, e2⟩ | ⟨c, μ1, e1, rfl⟩
  · have : μ1 = μ := by
      unfold lsOf at e1
      split at e1
      · cases e1; rfl
      · split at e1
        · cases e1; rfl
        · cases e1
      · cases e1
    subst this
    exact ⟨xs, e1, e2⟩
  · unfold lsOf at e1
    split at e1
    · cases e1
    · split at e1 <;> cases e1
    · cases e1
theorem rd_bind {α : Type} {s : Sv} {k : PyData → M α} {μ : Mu} {r : Res α} (h : M.bind (rd s) k μ = some r) : ∃ d, rd s μ = some (.ok d μ) ∧ k d μ = some r := by
  rcases bind_some h with ⟨d, μ1, e1, e2⟩ | ⟨c, μ1, e1, rfl⟩
  · have : μ1 = μ := by
      unfold rd at e1
      split at e1
      · cases e1; rfl
      · split at e1
        · rename_i xs _
          cases q : dats xs with
          | none => rw [q] at e1; cases e1
          | some ds => rw [q] at e1; cases e1; rfl
        · cases e1
      · cases e1
    subst this
    exact ⟨d, e1, e2⟩
  · unfold rd at e1
    split at e1
    · cases e1
    · split at e1
      · rename_i xs _
        cases q : dats xs with
        | none => rw [q] at e1; cases e1
        | some ds => rw [q] at e1; cases e1
      · cases e1
    · cases e1
section
variable {X : Cx} {E : XK}
theorem dq_int {K : PySem.W.Frag} {H : Hp} {v : V} {i : Int} (h : Dq K H v (.int i)) : v = .int i := by
  cases h
  rfl
theorem atI_rel {K : PySem.W.Frag} {H : Hp} {vs : List V} {ds : List PyData} {i : Int} {d : PyData} (h : Dqs K H vs ds) (e : atI ds i = some d) : ∃ v, atI vs i = some v ∧ Dq K H v d := by
  unfold atI at e ⊢
  rw [h.len]
  cases q : ixN ds.length i with
  | none =>
    rw [q] at e
    cases e
  | some j =>
    rw [q] at e
    obtain ⟨v, h1, h2⟩ := h.getD (i := j) e
    exact ⟨v, h1, h2⟩
theorem atI_rels {K : PySem.W.Frag} {W : Wd} {n : Nat} {vs : List V} {xs : List Sv} {i : Int} {x : Sv} (h : SvRs K W n vs xs) (e : atI xs i = some x) : ∃ v, atI vs i = some v ∧ SvR K W n v x := by
  unfold atI at e ⊢
  rw [h.len]
  cases q : ixN xs.length i with
  | none =>
    rw [q] at e
    cases e
  | some j =>
    rw [q] at e
    obtain ⟨v, h1, h2⟩ := h.get (i := j) e
    exact ⟨v, h1, h2⟩
theorem o_sub : OpR X (binaryOp .Sub) (rO2 X.K E pSub) := opr_weak op_sub fun x y H Q ⟨W, μ, a, b, r, R, ra, rb, e, q⟩ => by
  unfold pSub at e
  split at e
  · cases e
    exact ⟨_, _, dq_int ra, dq_int rb, q _ _ (Grow.refl _ _ _) R _ (.int _)⟩
  · cases e
theorem o_fdiv : OpR X (binaryOp .FloorDiv) (rO2 X.K E pFdiv) := opr_weak op_fdiv fun x y H Q ⟨W, μ, a, b, r, R, ra, rb, e, q⟩ => by
  unfold pFdiv at e
  split at e
  · obtain ⟨c, e⟩ := iff_ok e
    cases e
    have c' := Bool.and_eq_true_iff.mp c
    exact ⟨_, _, dq_int ra, dq_int rb, ⟨of_decide_eq_true c'.1, of_decide_eq_true c'.2⟩, q _ _ (Grow.refl _ _ _) R _ (.int _)⟩
  · cases e
theorem o_mod : OpR X (binaryOp .Mod) (rO2 X.K E pMod) := opr_weak op_mod fun x y H Q ⟨W, μ, a, b, r, R, ra, rb, e, q⟩ => by
  unfold pMod at e
  split at e
  · obtain ⟨c, e⟩ := iff_ok e
    cases e
    exact ⟨_, _, dq_int ra, dq_int rb, of_decide_eq_true c, q _ _ (Grow.refl _ _ _) R _ (.int _)⟩
  · cases e
theorem o_pow : OpR X (binaryOp .Pow) (rO2 X.K E pPow) := opr_weak op_pow fun x y H Q ⟨W, μ, a, b, r, R, ra, rb, e, q⟩ => by
  unfold pPow at e
  split at e
  · obtain ⟨c, e⟩ := iff_ok e
    cases e
    have c' := Bool.and_eq_true_iff.mp c
    have c2 := Bool.and_eq_true_iff.mp c'.1
    exact ⟨_, _, dq_int ra, dq_int rb, ⟨of_decide_eq_true c2.1, of_decide_eq_true c2.2, of_decide_eq_true c'.2⟩, q _ _ (Grow.refl _ _ _) R _ (.int _)⟩
  · cases e
theorem o_cmp {o : CmpOp} {f : Int → Int → Bool} (h : OpR X (compareOp o) (rI0 fun i j => .bl (f i j))) : OpR X (compareOp o) (rO2 X.K E (pCmp f)) := opr_weak h fun x y H Q ⟨W, μ, a, b, r, R, ra, rb, e, q⟩ => by
  unfold pCmp at e
  split at e
  · cases e
    exact ⟨_, _, dq_int ra, dq_int rb, q _ _ (Grow.refl _ _ _) R _ (.bl _)⟩
  · cases e
theorem o_lt : OpR X (compareOp .Lt) (rO2 X.K E pLt) := o_cmp op_lt
theorem o_le : OpR X (compareOp .LtE) (rO2 X.K E pLe) := o_cmp op_le
theorem o_gt : OpR X (compareOp .Gt) (rO2 X.K E pGt) := o_cmp op_gt
theorem o_ge : OpR X (compareOp .GtE) (rO2 X.K E pGe) := o_cmp op_ge
theorem eqn_ent {K : PySem.W.Frag} {n : Bool} {x y : V} {H : Hp} {Q : VK} (h : rO2 K E (pEqD n) x y H Q) : ∃ d e, Dp K H x d ∧ Dp K H y e ∧ SeqAt.shaped d = true ∧ SeqAt.shaped e = true ∧ Q (.bl (Bool.xor n (PyData.eqv d e))) H := by
  obtain ⟨W, μ, a, b, r, R, ra, rb, e, q⟩ := h
  obtain ⟨d, e1, e⟩ := rd_bind e
  obtain ⟨c, e2, e⟩ := rd_bind e
  obtain ⟨g, e⟩ := iff_ok e
  obtain ⟨g1, g2⟩ := Bool.and_eq_true_iff.mp g
  obtain ⟨d', z1, h1⟩ := rd_rel R ra e1
  obtain ⟨c', z2, h2⟩ := rd_rel R rb e2
  cases z1
  cases z2
  cases e
  exact ⟨d, c, h1.dp (SeqAt.canLay_of_shaped g1), h2.dp (SeqAt.canLay_of_shaped g2), g1, g2, q _ _ (Grow.refl _ _ _) R _ (.bl _)⟩
theorem eq_ent {K : PySem.W.Frag} {n : Bool} {x y : V} {H : Hp} {Q : VK} (h : rO2 K E (pEqn n) x y H Q) :
    (scal x y = true ∧ Q (.bl (Bool.xor n (decide (x = y)))) H) ∨ ∃ d e, Dp K H x d ∧ Dp K H y e ∧ SeqAt.shaped d = true ∧ SeqAt.shaped e = true ∧ Q (.bl (Bool.xor n (PyData.eqv d e))) H := by
  obtain ⟨W, μ, a, b, r, R, ra, rb, e, q⟩ := h
  unfold pEqn at e
  split at e
  · rename_i u v
    cases e
    cases ra
    cases rb
    refine .inl ⟨rfl, ?_⟩
    have z : decide (V.str u = V.str v) = decide (u = v) := by
      by_cases h : u = v
      · rw [h]
        simp
      · rw [decide_eq_false h, decide_eq_false fun z => h (V.str.inj z)]
    rw [z]
    exact q _ _ (Grow.refl _ _ _) R _ (.bl _)
  · rename_i u v
    cases e
    cases ra
    cases rb
    refine .inl ⟨rfl, ?_⟩
    have z : decide (V.int u = V.int v) = decide (u = v) := by
      by_cases h : u = v
      · rw [h]
        simp
      · rw [decide_eq_false h, decide_eq_false fun z => h (V.int.inj z)]
    rw [z]
    exact q _ _ (Grow.refl _ _ _) R _ (.bl _)
  · exact .inr (eqn_ent ⟨W, μ, a, b, r, R, ra, rb, e, q⟩)
theorem o_eq (hu : X.A.units + 64 < cLine) : OpR X (compareOp .Eq) (rO2 X.K E pEq) := opr_weak (op_eq.or (op_eqD hu)) fun x y H Q h => by
  rcases eq_ent h with ⟨h1, q⟩ | ⟨d, e, h1, h2, g1, g2, q⟩
  · rw [Bool.false_xor] at q
    exact .inl ⟨h1, q⟩
  · rw [Bool.false_xor] at q
    exact .inr ⟨d, e, h1, h2, g1, g2, q⟩
theorem o_ne (hu : X.A.units + 64 < cLine) : OpR X (compareOp .NotEq) (rO2 X.K E pNe) := opr_weak (op_ne.or (op_neD hu)) fun x y H Q h => by
  rcases eq_ent h with ⟨h1, q⟩ | ⟨d, e, h1, h2, g1, g2, q⟩
  · rw [Bool.true_xor] at q
    exact .inl ⟨h1, q⟩
  · rw [Bool.true_xor] at q
    exact .inr ⟨d, e, h1, h2, g1, g2, q⟩
theorem isNon_rel {K : PySem.W.Frag} {W : Wd} {n : Nat} {v : V} {s : Sv} (h : SvR K W n v s) : isNon s = decide (v = .non) := by
  cases s with
  | ref t =>
    obtain ⟨_, rfl⟩ := h
    rfl
  | scr ns =>
    obtain ⟨_, rfl, _⟩ := h
    rfl
  | dat d => cases h <;> rfl
theorem o_is : OpR X (compareOp .Is) (rO2 X.K E (pIs false)) := opr_weak op_isN fun x y H Q ⟨W, μ, a, b, r, R, ra, rb, e, q⟩ => by
  unfold pIs at e
  split at e
  · cases rb
    cases e
    rw [isNon_rel ra] at q
    exact ⟨rfl, q _ _ (Grow.refl _ _ _) R _ (by rw [Bool.false_xor]; exact .bl _)⟩
  · cases e
theorem o_isnot : OpR X (compareOp .IsNot) (rO2 X.K E (pIs true)) := opr_weak op_notN fun x y H Q ⟨W, μ, a, b, r, R, ra, rb, e, q⟩ => by
  unfold pIs at e
  split at e
  · cases rb
    cases e
    rw [isNon_rel ra] at q
    exact ⟨rfl, q _ _ (Grow.refl _ _ _) R _ (by rw [Bool.true_xor]; exact .bl _)⟩
  · cases e
theorem o_add {m : Bool} : OpR X (binaryOp .Add) (rO2 X.K E (pAdd m)) := by
  refine opr_weak ((op_add (X := X)).or (op_catA.or (op_add_str.or op_cat))) fun x y H Q ⟨W, μ, a, b, r, R, ra, rb, e, q⟩ => ?_
  unfold pAdd at e
  split at e
  · cases e
    exact .inl ⟨_, _, dq_int ra, dq_int rb, q _ _ (Grow.refl _ _ _) R _ (.int _)⟩
  · obtain ⟨c, e⟩ := iff_ok e
    cases ra with
    | tup h1 r1 =>
      cases rb with
      | tup h2 r2 =>
        refine .inr (.inl ⟨_, _, _, _, rfl, rfl, seqT_mono R.sub h1, seqT_mono R.sub h2, by rw [r1.len, r2.len]; exact szOk_line c, fun z => ?_, fun _ z => ?_, fun _ _ p hp => dq_tup R hp (r1.append r2) e q⟩)
        · subst z
          cases r1
          cases e
          exact q _ _ (Grow.refl _ _ _) R _ (.tup h2 r2)
        · subst z
          cases r2
          cases e
          rw [List.append_nil] at q
          exact q _ _ (Grow.refl _ _ _) R _ (.tup h1 r1)
  · obtain ⟨c, e⟩ := iff_ok e
    cases e
    cases ra
    cases rb
    exact .inr (.inr (.inl ⟨_, _, rfl, rfl, szOk_line c, q _ _ (Grow.refl _ _ _) R _ (.str _)⟩))
  · rename_i xs
    obtain ⟨ys, e1, e⟩ := lsOf_bind e
    obtain ⟨c, e⟩ := iff_ok e
    cases ra with
    | lst h1 r1 =>
      obtain ⟨p2, vs2, xs2, rfl, h2, r2, z⟩ := lsOf_rel R rb e1
      cases z
      refine .inr (.inr (.inr ⟨_, _, _, _, rfl, rfl, R.sub _ _ h1, h2, ?_, fun p hp => mkl_ok R hp ((rel_dats r1).append r2) e q⟩))
      rw [r1.len, r2.len]
      exact szOk_line c
  · obtain ⟨xs, e0, e⟩ := lsOf_bind e
    obtain ⟨ys, e1, e⟩ := lsOf_bind e
    obtain ⟨c, e⟩ := iff_ok e
    obtain ⟨p1, vs1, xs1, rfl, h1, r1, z⟩ := lsOf_rel R ra e0
    cases z
    obtain ⟨p2, vs2, xs2, rfl, h2, r2, z⟩ := lsOf_rel R rb e1
    cases z
    refine .inr (.inr (.inr ⟨_, _, _, _, rfl, rfl, h1, h2, ?_, fun p hp => mkl_ok R hp (r1.append r2) e q⟩))
    rw [r1.len, r2.len]
    exact szOk_line c
  · cases e
theorem flat_rels {K : PySem.W.Frag} {W : Wd} {n : Nat} {vs : List V} {xs : List Sv} (h : SvRs K W n vs xs) : ∀ k : Nat, SvRs K W n (List.replicate k vs).flatten (List.replicate k xs).flatten
  | 0 => .nil
  | k + 1 => by
    rw [List.replicate_succ, List.replicate_succ, List.flatten_cons, List.flatten_cons]
    exact h.append (flat_rels h k)
theorem small_ok {i : Int} (h : small i = true) : -(2 ^ 64) < i ∧ i < 2 ^ 64 := by
  have c := Bool.and_eq_true_iff.mp h
  exact ⟨of_decide_eq_true c.1, of_decide_eq_true c.2⟩
theorem o_mul {m : Bool} : OpR X (binaryOp .Mult) (rO2 X.K E (pMul m)) := by
  refine opr_weak ((op_mul (X := X)).or op_rep) fun x y H Q ⟨W, μ, a, b, r, R, ra, rb, e, q⟩ => ?_
  unfold pMul at e
  split at e
  · obtain ⟨c, e⟩ := iff_ok e
    cases e
    refine .inl ⟨_, _, dq_int ra, dq_int rb, ?_, q _ _ (Grow.refl _ _ _) R _ (.int _)⟩
    rcases Bool.or_eq_true_iff.mp c with c | c
    · exact .inl (small_ok c)
    · exact .inr (small_ok c)
  · obtain ⟨c, e⟩ := iff_ok e
    obtain ⟨c1, c2⟩ := Bool.and_eq_true_iff.mp c
    have c3 := small_ok c1
    cases ra with
    | lst h1 r1 =>
      refine .inr ⟨_, _, _, rfl, dq_int rb, R.sub _ _ h1, by omega, by omega, by rw [r1.len]; exact szOk_line c2, fun p hp => mkl_ok R hp (flat_rels (rel_dats r1) _) e q⟩
  · cases e
theorem o_ix : IxR X (rO2 X.K E pIx) := by
  refine ixr_weak ix_seq fun x y H Q ⟨W, μ, a, b, r, R, ra, rb, e, q⟩ => ?_
  unfold pIx at e
  split at e
  · rename_i i
    have rb' := dq_int rb
    subst rb'
    split at e
    · obtain ⟨d, e1, e⟩ := orFail_some e
      cases e
      cases ra with
      | tup h1 r1 =>
        obtain ⟨v, a1, a2⟩ := atI_rel r1 e1
        exact .inr (.inl ⟨_, _, _, v, rfl, rfl, seqT_mono R.sub h1, a1, q _ _ (Grow.refl _ _ _) R _ a2⟩)
    · obtain ⟨d, e1, e⟩ := orFail_some e
      cases e
      cases ra
      split at e1
      · rename_i hz
        exact .inr (.inr ⟨_, _, _, rfl, rfl, szOk_line hz, e1, q _ _ (Grow.refl _ _ _) R _ (.str _)⟩)
      · cases e1
    · obtain ⟨xs, e0, e⟩ := lsOf_bind e
      obtain ⟨p1, vs1, xs1, rfl, h1, r1, z⟩ := lsOf_rel R ra e0
      cases z
      cases w : atI xs i with
      | none =>
        rw [w] at e
        cases e
      | some d =>
        rw [w] at e
        cases e
        obtain ⟨v, a1, a2⟩ := atI_rels r1 w
        exact .inl ⟨_, _, _, v, rfl, rfl, SqL.of h1, a1, q _ _ (Grow.refl _ _ _) R _ a2⟩
  · cases e
end
end Pf

namespace Pf
open PySem PySem.Spec PyProof.Rows L2

section
variable {X : Cx} {E : XK} {e a b c : Expr} {es : List Expr} {Fa Fb Fc : Rho → M Sv} {Fs : Rho → M (List Sv)} {pos p : Pos}
/-! ### arguments, displays -/
def argN (_ : Rho) : M (List Sv) := M.ret []
def argC (Fa : Rho → M Sv) (Fs : Rho → M (List Sv)) (ρ : Rho) : M (List Sv) := (Fa ρ).bind fun a => (Fs ρ).bind fun r => M.ret (a :: r)
theorem a_nil : PAX X E [] argN := pa_weak pa_nil fun σ H Q ⟨W, ρ, μ, r, h, e, q⟩ => by
  cases e
  exact q _ _ (Grow.refl _ _ _) h.rel _ .nil
theorem a_cons (ha : PX X E a Fa) (hr : PAX X E es Fs) (hs : starEach (a :: es) X.env = (false, eval a X.env) :: starEach es X.env := by rfl) : PAX X E (a :: es) (argC Fa Fs) := pa_weak (pa_cons ha hr hs) fun σ H Q ⟨W, ρ, μ, r, h, e, q⟩ => by
  refine tX_bind h e q fun v a W1 H1 μ1 g1 h1 ra e1 q1 => tAr_bind h1 e1 q1 fun vs ss W2 H2 μ2 g2 h2 rs e2 q2 => ?_
  cases e2
  exact q2 _ _ (Grow.refl _ _ _) h2.rel _ (.cons (ra.grow g2) rs)
def tupV (Fs : Rho → M (List Sv)) (ρ : Rho) : M Sv := (Fs ρ).bind fun ss => if szOk ss.length = true then mkt ss else M.fail
def lstV (m : Bool) (Fs : Rho → M (List Sv)) (ρ : Rho) : M Sv := (Fs ρ).bind fun ss => if szOk ss.length = true then mkl m ss else M.fail
theorem x_tup {k : Nat} (ha : PAX X E es Fs) : PX X E (.Tuple es k pos) (tupV Fs) := pe_weak (pe_tup ha) fun σ H Q ⟨W, ρ, μ, r, h, e, q⟩ => by
  refine tAr_bind h e q fun vs ss W1 H1 μ1 g1 h1 rs e1 q1 => ?_
  obtain ⟨c, e1⟩ := iff_ok e1
  exact ⟨by rw [rs.len]; exact szOk_line c, fun p hp => mkt_ok h1.rel hp rs e1 q1⟩
theorem x_lst (m : Bool) (ha : PAX X E es Fs) : PX X E (.List es pos) (lstV m Fs) := pe_weak (pe_lst ha) fun σ H Q ⟨W, ρ, μ, r, h, e, q⟩ => by
  refine tAr_bind h e q fun vs ss W1 H1 μ1 g1 h1 rs e1 q1 => ?_
  obtain ⟨c, e1⟩ := iff_ok e1
  exact ⟨by rw [rs.len]; exact szOk_line c, fun p hp => mkl_ok h1.rel hp rs e1 q1⟩

/-! ### a mutable list becomes data -/
def frz (s : Sv) : M Sv := fun μ => match s with
  | .dat d => some (.ok (.dat d) μ)
  | .ref t => match μ[t]? with
    | some (.lst xs) => (dats xs).map fun ds => .ok (.dat (.list ds)) (μ.set t .gone)
    | _ => none
  | _ => none
def frzV (Fa : Rho → M Sv) (ρ : Rho) : M Sv := (Fa ρ).bind frz
theorem frz_ok {K : PySem.W.Frag} {W : Wd} {H : Hp} {μ : Mu} {s : Sv} {v : V} {r : Res Sv} {Q : VK} (R : Rel K W H μ) (h : SvR K W μ.length v s) (e : frz s μ = some r) (q : KoV K E W H μ r Q) : Q v H := by
  cases s with
  | dat d =>
    cases e
    exact q _ _ (Grow.refl _ _ _) R _ h
  | ref t =>
    obtain ⟨_, rfl⟩ := h
    unfold frz at e
    cases q1 : μ[t]? with
    | none =>
      simp only [q1] at e
      cases e
    | some o =>
      cases o with
      | gone =>
        simp only [q1] at e
        cases e
      | lst xs =>
        simp only [q1] at e
        cases w : dats xs with
        | none =>
          rw [w] at e
          cases e
        | some ds =>
          rw [w] at e
          cases e
          obtain ⟨W', g, R', hd, he, hs⟩ := R.freeze q1 w
          exact q W' H (grow_freeze q1 g he hs) R' _ hd
  | scr ns => cases e
theorem x_frz (ha : PX X E a Fa) : PX X E a (frzV Fa) := pe_weak ha fun σ H Q ⟨W, ρ, μ, r, h, e, q⟩ => tX_bind h e q fun v s W1 H1 μ1 g1 h1 rs e1 q1 => frz_ok h1.rel rs e1 q1

/-! ### built-in calls by values -/
def rC (K : PySem.W.Frag) (E : XK) (op : List Sv → M Sv) : List V → Hp → VK → Prop := fun xs H Q => ∃ W μ ss r, Rel K W H μ ∧ SvRs K W μ.length xs ss ∧ op ss μ = some r ∧ KoV K E W H μ r Q
theorem callr_weak {f : Value} {r r' : List V → Hp → VK → Prop} (h : CallR X f r) (w : ∀ xs H Q, r' xs H Q → r xs H Q) : CallR X f r' := fun pins s σ H xs us Q I rv q => h pins s σ H xs us Q I rv (w _ _ _ q)
def callV (op : List Sv → M Sv) (Fs : Rho → M (List Sv)) (ρ : Rho) : M Sv := (Fs ρ).bind op
theorem callV_ent {K : PySem.W.Frag} {op : List Sv → M Sv} {σ : L2.St} {H : Hp} {Q : VK} (h : tX K E (callV op Fs) σ H Q) : tCB (rC K E op) (tAr K E Fs) σ H Q := by
  obtain ⟨W, ρ, μ, r, h, e, q⟩ := h
  exact tAr_bind h e q fun vs ss W1 H1 μ1 g1 h1 rs e1 q1 => ⟨W1, μ1, ss, r, h1.rel, rs, e1, q1⟩
theorem x_callB {id : String} {x : Str} {op : List Sv → M Sv} (hc : CallR X (.builtin id) (rC X.K E op)) (hg : Gl X x) (hm : X.mg x = none) (hv : bootBuiltins x = some (.builtin id)) (ha : PAX X E (e :: es) Fs) (hn : x ≠ "__name__" := by decide) (hdb : (x == ("__debug__" : Str)) = false := by decide)
    (he : starEach (e :: es) X.env = (false, eval e X.env) :: starEach es X.env := by rfl) (hpl : (backTo pos (starEach es X.env)).any (·.1) = false := by rfl) : PX X E (.Call (.Name x p) (e :: es) [] pos) (callV op Fs) :=
  pe_weak (pe_callB hc hg hm hv ha hn hdb he hpl) fun _ _ _ h => callV_ent h
theorem x_callTy {id : String} {x : Str} {op : List Sv → M Sv} (hc : CallR X (.type id) (rC X.K E op)) (hg : Gl X x) (hm : X.mg x = none) (hv : bootBuiltins x = some (.type id)) (ha : PAX X E (e :: es) Fs) (hn : x ≠ "__name__" := by decide) (hdb : (x == ("__debug__" : Str)) = false := by decide)
    (he : starEach (e :: es) X.env = (false, eval e X.env) :: starEach es X.env := by rfl) (hpl : (backTo pos (starEach es X.env)).any (·.1) = false := by rfl) : PX X E (.Call (.Name x p) (e :: es) [] pos) (callV op Fs) :=
  pe_weak (pe_callTy hc hg hm hv ha hn hdb he hpl) fun _ _ _ h => callV_ent h
theorem rels1 {K : PySem.W.Frag} {W : Wd} {n : Nat} {xs : List V} {s : Sv} (h : SvRs K W n xs [s]) : ∃ x, xs = [x] ∧ SvR K W n x s := by
  cases h with
  | cons h r =>
    cases r
    exact ⟨_, rfl, h⟩
theorem rels2 {K : PySem.W.Frag} {W : Wd} {n : Nat} {xs : List V} {s t : Sv} (h : SvRs K W n xs [s, t]) : ∃ x y, xs = [x, y] ∧ SvR K W n x s ∧ SvR K W n y t := by
  cases h with
  | cons h r =>
    obtain ⟨y, rfl, h2⟩ := rels1 r
    exact ⟨_, y, rfl, h, h2⟩
def bLen (ss : List Sv) : M Sv := match ss with
  | [.dat (.tuple ds)] => M.ret (.dat (.int ds.length))
  | [.dat (.str x)] => if szOk x.length = true then M.ret (.dat (.int x.length)) else M.fail
  | [s] => (lsOf s).bind fun xs => M.ret (.dat (.int xs.length))
  | _ => M.fail
theorem b_len : CallR X (.builtin "len") (rC X.K E bLen) := callr_weak call_len fun xs H Q ⟨W, μ, ss, r, R, rs, e, q⟩ => by
  unfold bLen at e
  split at e
  · cases e
    obtain ⟨x, rfl, h⟩ := rels1 rs
    cases h with
    | tup h1 r1 => exact ⟨_, _, rfl, .inr ⟨_, seqT_mono R.sub h1, rfl⟩, q _ _ (Grow.refl _ _ _) R _ (by rw [r1.len]; exact .int _)⟩
  · obtain ⟨c, e⟩ := iff_ok e
    cases e
    obtain ⟨x, rfl, h⟩ := rels1 rs
    cases h
    exact ⟨_, _, rfl, ⟨szOk_line c, rfl⟩, q _ _ (Grow.refl _ _ _) R _ (.int _)⟩
  · obtain ⟨x, rfl, h⟩ := rels1 rs
    obtain ⟨ys, e0, e⟩ := lsOf_bind e
    obtain ⟨p1, vs1, xs1, rfl, h1, r1, z⟩ := lsOf_rel R h e0
    cases z
    cases e
    exact ⟨_, _, rfl, .inl ⟨_, SqL.of h1, rfl⟩, q _ _ (Grow.refl _ _ _) R _ (by rw [r1.len]; exact .int _)⟩
  · cases e
def bMax2 (ss : List Sv) : M Sv := match ss with
  | [.dat (.int i), .dat (.int j)] => M.ret (.dat (.int (if j > i then j else i)))
  | _ => M.fail
def bMin2 (ss : List Sv) : M Sv := match ss with
  | [.dat (.int i), .dat (.int j)] => M.ret (.dat (.int (if j < i then j else i)))
  | _ => M.fail
theorem b_max2 (hc : X.calm = true := by rfl) : CallR X (.builtin "max") (rC X.K E bMax2) := callr_weak (call_max2 hc) fun xs H Q ⟨W, μ, ss, r, R, rs, e, q⟩ => by
  unfold bMax2 at e
  split at e
  · cases e
    obtain ⟨x, y, rfl, h, h2⟩ := rels2 rs
    cases h
    cases h2
    exact ⟨_, _, rfl, q _ _ (Grow.refl _ _ _) R _ (.int _)⟩
  · cases e
theorem b_min2 (hc : X.calm = true := by rfl) : CallR X (.builtin "min") (rC X.K E bMin2) := callr_weak (call_min2 hc) fun xs H Q ⟨W, μ, ss, r, R, rs, e, q⟩ => by
  unfold bMin2 at e
  split at e
  · cases e
    obtain ⟨x, y, rfl, h, h2⟩ := rels2 rs
    cases h
    cases h2
    exact ⟨_, _, rfl, q _ _ (Grow.refl _ _ _) R _ (.int _)⟩
  · cases e
/-- ints in a list of data -/
def asInts : List PyData → Option (List Int)
  | [] => some []
  | .int i :: r => (asInts r).map (i :: ·)
  | _ :: _ => none
theorem ints_rel {K : PySem.W.Frag} {H : Hp} : ∀ {vs : List V} {ds : List PyData} {ns : List Int}, Dqs K H vs ds → asInts ds = some ns → vs = ns.map V.int
  | _, [], _, .nil, e => by
    cases e
    rfl
  | _, .int i :: ds, _, .cons h r, e => by
    have e' : (asInts ds).map (i :: ·) = some _ := e
    cases q : asInts ds with
    | none =>
      rw [q] at e'
      cases e'
    | some z =>
      rw [q] at e'
      cases e'
      rw [ints_rel r q, dq_int h]
      rfl
  | _, .none :: _, _, .cons _ _, e => nomatch e
  | _, .bool _ :: _, _, .cons _ _, e => nomatch e
  | _, .str _ :: _, _, .cons _ _, e => nomatch e
  | _, .list _ :: _, _, .cons _ _, e => nomatch e
  | _, .tuple _ :: _, _, .cons _ _, e => nomatch e
  | _, .dict _ :: _, _, .cons _ _, e => nomatch e
theorem ints_map (ns : List Int) : asInts (ns.map PyData.int) = some ns := by
  induction ns with
  | nil => rfl
  | cons n ns ih =>
    show (asInts (ns.map PyData.int)).map (n :: ·) = _
    rw [ih]
    rfl
def bTuple (ss : List Sv) : M Sv := match ss with
  | [.dat (.tuple ds)] => M.ret (.dat (.tuple ds))
  | [s] => (lsOf s).bind fun xs => mkt xs
  | _ => M.fail
theorem b_tuple : CallR X (.type "tuple") (rC X.K E bTuple) := callr_weak call_tuple_of fun xs H Q ⟨W, μ, ss, r, R, rs, e, q⟩ => by
  unfold bTuple at e
  split at e
  · cases e
    obtain ⟨x, rfl, h⟩ := rels1 rs
    have h0 := h
    cases h with
    | tup h1 r1 => exact ⟨_, _, rfl, .inr ⟨seqT_mono R.sub h1, q _ _ (Grow.refl _ _ _) R _ h0⟩⟩
  · obtain ⟨x, rfl, h⟩ := rels1 rs
    obtain ⟨ys, e0, e⟩ := lsOf_bind e
    obtain ⟨p1, vs1, xs1, rfl, h1, r1, z⟩ := lsOf_rel R h e0
    cases z
    exact ⟨_, _, rfl, .inl ⟨SqL.of h1, fun l hl => mkt_ok R hl r1 e q⟩⟩
  · cases e
def bList (m : Bool) (ss : List Sv) : M Sv := match ss with
  | [.dat (.tuple ds)] => mkl m (ds.map Sv.dat)
  | [s] => (lsOf s).bind fun xs => mkl m xs
  | _ => M.fail
theorem b_list {m : Bool} : CallR X (.type "list") (rC X.K E (bList m)) := callr_weak call_list_of fun xs H Q ⟨W, μ, ss, r, R, rs, e, q⟩ => by
  unfold bList at e
  split at e
  · obtain ⟨x, rfl, h⟩ := rels1 rs
    cases h with
    | tup h1 r1 => exact ⟨_, _, rfl, .inr (seqT_mono R.sub h1), fun l hl => mkl_ok R hl (rel_dats r1) e q⟩
  · obtain ⟨x, rfl, h⟩ := rels1 rs
    obtain ⟨ys, e0, e⟩ := lsOf_bind e
    obtain ⟨p1, vs1, xs1, rfl, h1, r1, z⟩ := lsOf_rel R h e0
    cases z
    exact ⟨_, _, rfl, .inl (SqL.of h1), fun l hl => mkl_ok R hl r1 e q⟩
  · cases e

/-! ### repr -/
def okShow (d : PyData) : Bool := d.showable && decide (d.depth ≤ 60) && szOk d.shown.length
def bRepr (ss : List Sv) : M Sv := match ss with
  | [s] => (rd s).bind fun d => if okShow d = true then M.ret (.dat (.str d.shown)) else M.fail
  | _ => M.fail
theorem b_repr (hg : X.A.guards = some []) (hu : X.A.units + 64 < cLine) : CallR X (.builtin "repr") (rC X.K E bRepr) := by
  intro pins s σ H xs us Q I rv ⟨W, μ, ss, r, R, rs, e, q⟩
  unfold bRepr at e
  split at e
  · obtain ⟨x, rfl, h⟩ := rels1 rs
    obtain ⟨u, rfl, rx⟩ := vals1 rv
    obtain ⟨d, e1, e⟩ := rd_bind e
    obtain ⟨d', z1, h1⟩ := rd_rel R h e1
    cases z1
    obtain ⟨c, e⟩ := iff_ok e
    cases e
    obtain ⟨c, c4⟩ := Bool.and_eq_true_iff.mp c
    obtain ⟨c1, c3⟩ := Bool.and_eq_true_iff.mp c
    have hd := of_decide_eq_true c3
    have done : ∀ h' t tk, (∀ b o, s.heap.get? b = some o → h'.get? b = some o) → EP X pins σ Q (.str d.shown t) { s with heap := h', toks := tk } := fun h' t tk k =>
      ⟨.str d.shown, H, I.kept k, ⟨t, rfl⟩, q _ _ (Grow.refl _ _ _) R _ (.str _)⟩
    obtain ⟨as, hr, hb⟩ := Dq.reads I h1 rx
    have hsm : d.hasDict = true → sysModules ∉ as := fun _ => hb R.sm
    have line : d.shown.length ≤ sizeLine := szOk_line c4
    have refs : ∀ a, u = .ref a → wpAny (model X.prog X.w) X.A (call (.builtin "repr") [u]) (EP X pins σ Q) X.xe s := fun a ea => by
      subst ea
      exact repr_of_reads' hr c1 hsm hg (by omega) (fun _ _ z => z) (fun h' t tk k => done h' t tk k) line
    cases h1 with
    | non =>
      cases (show u = Value.none from rx)
      exact P.repr_of_none (done _ _ _ fun _ _ z => z)
    | bl b =>
      cases (show u = Value.bool b from rx)
      exact P.repr_of_bool (done _ _ _ fun _ _ z => z)
    | int i =>
      obtain ⟨t, rfl⟩ := rx
      exact P.repr_of_int (of_decide_eq_true (by simpa only [PyData.showable] using c1)) (done _ _ _ fun _ _ z => z)
    | str y =>
      obtain ⟨t, rfl⟩ := rx
      exact P.repr_of_str (done _ _ _ fun _ _ z => z) line
    | lst h2 r2 => exact refs _ rx
    | tup h2 r2 => exact refs _ rx
    | dct h2 r2 => exact refs _ rx
  · cases e
/-! ### isinstance -/
def tyN : Sv → String
  | .dat .none => "NoneType"
  | .dat (.bool _) => "bool"
  | .dat (.int _) => "int"
  | .dat (.str _) => "str"
  | .dat (.list _) => "list"
  | .dat (.tuple _) => "tuple"
  | .dat (.dict _) => "dict"
  | _ => "list"
def isi (n : String) (s : Sv) (μ : Mu) : Option (Res Sv) := match s, kitB (tyN s) n with
  | .dat _, some b => some (.ok (.dat (.bool b)) μ)
  | .ref t, some b => match μ[t]? with
    | some (.lst _) => some (.ok (.dat (.bool b)) μ)
    | _ => none
  | _, _ => none
theorem ty_rel {K : PySem.W.Frag} {H : Hp} {v : V} {d : PyData} (h : Dq K H v d) : TyX K H v (.type (tyN (.dat d))) := by
  cases h with
  | non => exact .base .non
  | bl b => exact .base (.bl b)
  | int i => exact .base (.int i)
  | str x => exact .base (.str x)
  | lst h r => exact .base (.lst h)
  | tup h r =>
    rcases h with (h | ⟨o, h⟩) | ⟨o, its, n, h, hc, _⟩
    · exact .base (.tup h)
    · exact .fTuple h
    · exact .kTuple h hc
  | dct h r => exact .base (.dK h)
def isiV (n : String) (Fa : Rho → M Sv) (ρ : Rho) : M Sv := (Fa ρ).bind (isi n)
theorem x_isi {x y : Str} {n : String} {p p2 pos : Pos} (hg : Gl X x) (hm : X.mg x = none) (hv : bootBuiltins x = some (.builtin "isinstance")) (hg2 : Gl X y) (hm2 : X.mg y = none) (hv2 : bootBuiltins y = some (.type n)) (ha : PX X E a Fa)
    (hn : x ≠ "__name__" := by decide) (hdb : (x == ("__debug__" : Str)) = false := by decide) (hn2 : y ≠ "__name__" := by decide) (hdb2 : (y == ("__debug__" : Str)) = false := by decide)
    (he : starEach [a, .Name y p2] X.env = (false, eval a X.env) :: starEach [.Name y p2] X.env := by rfl) (he2 : starEach [.Name y p2] X.env = (false, eval (.Name y p2) X.env) :: starEach [] X.env := by rfl) (hpl : (backTo pos (starEach [.Name y p2] X.env)).any (·.1) = false := by rfl) :
    PX X E (.Call (.Name x p) [a, .Name y p2] [] pos) (isiV n Fa) :=
  pe_weak (pe_callB call_isi hg hm hv (pa_cons ha (pa_cons (pe_bltn (v := .ty n) hg2 hm2 hv2 rfl hn2 hdb2) pa_nil he2) he) hn hdb he hpl) fun σ H Q ⟨W, ρ, μ, r, h, e, q⟩ => by
    refine tX_bind h e q fun v s W1 H1 μ1 g1 h1 rs e1 q1 => ?_
    unfold isi at e1
    split at e1
    · rename_i d b hk
      cases e1
      exact ⟨v, .ty n, _, _, b, rfl, .ty n, ty_rel (Dq.mono h1.rel.sub rs), kit_ty hk, q1 _ _ (Grow.refl _ _ _) h1.rel _ (.bl b)⟩
    · rename_i t b hk
      obtain ⟨_, rfl⟩ := rs
      split at e1
      · rename_i xs hx
        cases e1
        obtain ⟨vs, z, _⟩ := h1.rel.obj t _ hx
        exact ⟨_, .ty n, _, _, b, rfl, .ty n, .base (.lst z), kit_ty hk, q1 _ _ (Grow.refl _ _ _) h1.rel _ (.bl b)⟩
      · cases e1
    · cases e1
end
end Pf

namespace Pf
open PySem PySem.Spec PyProof.Rows L2

section
variable {X : Cx} {E : XK} {e a b c lo hi : Expr} {es : List Expr} {Fa Fb Fc : Rho → M Sv} {Fs : Rho → M (List Sv)} {pos p p2 : Pos}
/-! ### slices -/
def tPO (K : PySem.W.Frag) (E : XK) (F : Rho → M (Option Int)) : TO := fun σ H Q => ∃ W ρ μ r, Here K W σ H ρ μ ∧ F ρ μ = some r ∧ Ko K E W H μ r fun W' H' o μ' => Q o H'
abbrev POX (X : Cx) (E : XK) (e : Option Expr) (F : Rho → M (Option Int)) : Prop := PO X e (tPO X.K E F)
theorem po_weak {X : Cx} {e : Option Expr} {t t' : TO} (h : PO X e t) (w : ∀ σ H Q, t' σ H Q → t σ H Q) : PO X e t' := ⟨fun pins s σ H Q I q => h.run pins s σ H Q I (w _ _ _ q)⟩
def noPart (_ : Rho) : M (Option Int) := M.ret none
def asI (s : Sv) : M Int := match s with
  | .dat (.int i) => M.ret i
  | _ => M.fail
def aPart (F : Rho → M Sv) (ρ : Rho) : M (Option Int) := (F ρ).bind fun s => (asI s).bind fun i => M.ret (some i)
theorem asI_bind {α : Type} {s : Sv} {k : Int → M α} {μ : Mu} {r : Res α} (h : M.bind (asI s) k μ = some r) : ∃ i, s = .dat (.int i) ∧ k i μ = some r := by
  unfold asI at h
  split at h
  · exact ⟨_, rfl, h⟩
  · cases h
theorem o_none : POX X E none noPart := po_weak po_none fun σ H Q ⟨W, ρ, μ, r, h, e, q⟩ => by
  cases e
  exact q _ _ (Grow.refl _ _ _) h.rel
theorem o_some (h : PX X E a Fa) : POX X E (some a) (aPart Fa) := po_weak (po_some h) fun σ H Q ⟨W, ρ, μ, r, h, e, q⟩ => by
  refine tX_bind h e q fun v s W1 H1 μ1 g1 h1 rs e1 q1 => ?_
  obtain ⟨i, rfl, e1⟩ := asI_bind e1
  cases rs
  cases e1
  exact ⟨i, rfl, q1 _ _ (Grow.refl _ _ _) h1.rel⟩
theorem tPO_bind {α : Type} {K : PySem.W.Frag} {W : Wd} {σ : L2.St} {H : Hp} {ρ : Rho} {μ : Mu} {F : Rho → M (Option Int)} {k : Option Int → M α} {r : Res α} {P : Wd → Hp → α → Mu → Prop} {Q : Option Int → Hp → Prop} (h : Here K W σ H ρ μ) (e : M.bind (F ρ) k μ = some r) (q : Ko K E W H μ r P)
    (step : ∀ b W1 H1 μ1, Grow W H μ W1 H1 μ1 → Here K W1 σ H1 ρ μ1 → k b μ1 = some r → Ko K E W1 H1 μ1 r P → Q b H1) : tPO K E F σ H Q := by
  rcases bind_some e with ⟨a, μ1, e1, e2⟩ | ⟨c, μ1, e1, rfl⟩
  · exact ⟨W, ρ, μ, _, h, e1, fun W1 H1 g R => step a W1 H1 μ1 g (h.next g R) e2 (q.later g)⟩
  · exact ⟨W, ρ, μ, _, h, e1, q⟩
def cutL {α : Type} (xs : List α) (lo hi : Option Int) : List α := (xs.drop (HT.sIx xs.length 0 lo)).take (HT.sIx xs.length xs.length hi - HT.sIx xs.length 0 lo)
def pSl (m : Bool) (s : Sv) (lo hi : Option Int) : M Sv := match s with
  | .dat (.tuple ds) => M.ret (.dat (.tuple (cutL ds lo hi)))
  | .dat (.str z) => if szOk z.length = true then M.ret (.dat (.str (cutS z lo hi))) else M.fail
  | .scr ns => mkl m ((cutL ns lo hi).map fun n => .dat (.int n))
  | s => (lsOf s).bind fun xs => mkl m (cutL xs lo hi)
theorem int_rels {K : PySem.W.Frag} {W : Wd} {n : Nat} : ∀ ns : List Int, SvRs K W n (ns.map V.int) (ns.map fun i => .dat (.int i))
  | [] => .nil
  | i :: r => .cons (.int i) (int_rels r)
theorem cut_map (ns : List Int) (lo hi : Option Int) : cutV (ns.map V.int) lo hi = (cutL ns lo hi).map V.int := by
  unfold cutV cutL
  rw [List.length_map, List.map_take, List.map_drop]
theorem cut_whole {α : Type} {xs : List α} {lo hi : Option Int} (h : HT.sIx xs.length 0 lo = 0 ∧ HT.sIx xs.length xs.length hi = xs.length) : cutL xs lo hi = xs := by
  unfold cutL
  rw [h.1, h.2, List.drop_zero, Nat.sub_zero, List.take_length]
theorem cut_rel {K : PySem.W.Frag} {H : Hp} {vs : List V} {ds : List PyData} {lo hi : Option Int} (h : Dqs K H vs ds) : Dqs K H (cutV vs lo hi) (cutL ds lo hi) := by
  unfold cutV cutL
  rw [h.len]
  exact (h.drop _).take _
theorem rels_take {K : PySem.W.Frag} {W : Wd} {n : Nat} : ∀ {v : List V} {x : List Sv} (k : Nat), SvRs K W n v x → SvRs K W n (v.take k) (x.take k)
  | _, _, 0, _ => .nil
  | _, _, _ + 1, .nil => .nil
  | _, _, k + 1, .cons r t => .cons r (rels_take k t)
theorem rels_drop {K : PySem.W.Frag} {W : Wd} {n : Nat} : ∀ {v : List V} {x : List Sv} (k : Nat), SvRs K W n v x → SvRs K W n (v.drop k) (x.drop k)
  | _, _, 0, r => r
  | _, _, _ + 1, .nil => .nil
  | _, _, k + 1, .cons _ t => rels_drop k t
theorem cut_rels {K : PySem.W.Frag} {W : Wd} {n : Nat} {vs : List V} {xs : List Sv} {lo hi : Option Int} (h : SvRs K W n vs xs) : SvRs K W n (cutV vs lo hi) (cutL xs lo hi) := by
  unfold cutV cutL
  rw [h.len]
  exact rels_take _ (rels_drop _ h)
def slV (m : Bool) (Fa : Rho → M Sv) (Fl Fh : Rho → M (Option Int)) (ρ : Rho) : M Sv := (Fa ρ).bind fun s => (Fl ρ).bind fun lo => (Fh ρ).bind fun hi => pSl m s lo hi
theorem x_slice (m : Bool) {lo hi : Option Expr} {Fl Fh : Rho → M (Option Int)} (he : PX X E a Fa) (hl : POX X E lo Fl) (hu : POX X E hi Fh) : PX X E (.Subscript a (.Slice lo hi none p2) pos) (slV m Fa Fl Fh) :=
  pe_weak (pe_slice ((sl_tupA (X := X)).or (sl_str.or sl_list)) he hl hu) fun σ H Q ⟨W, ρ, μ, r, h, e, q⟩ => by
    refine tX_bind h e q fun v s W1 H1 μ1 g1 h1 rs e1 q1 => tPO_bind h1 e1 q1 fun lo W2 H2 μ2 g2 h2 e2 q2 => tPO_bind h2 e2 q2 fun hi W3 H3 μ3 g3 h3 e3 q3 => ?_
    have rs' := (rs.grow g2).grow g3
    unfold pSl at e3
    split at e3
    · cases e3
      cases rs' with
      | tup h4 r4 =>
        refine .inl ⟨_, _, rfl, seqT_mono h3.rel.sub h4, fun z => ?_, fun z p hp => ?_⟩
        · rw [r4.len] at z
          rw [cut_whole z] at q3
          exact q3 _ _ (Grow.refl _ _ _) h3.rel _ (.tup h4 r4)
        · exact dq_tup h3.rel hp (cut_rel r4) rfl q3
    · obtain ⟨c, e3⟩ := iff_ok e3
      cases e3
      cases rs'
      exact .inr (.inl ⟨_, rfl, szOk_line c, q3 _ _ (Grow.refl _ _ _) h3.rel _ (.str _)⟩)
    · obtain ⟨a, rfl, ha⟩ := rs'
      refine .inr (.inr ⟨_, _, rfl, h3.rel.sub.seq ha, fun p hp => ?_⟩)
      rw [cut_map]
      exact mkl_ok h3.rel hp (int_rels _) e3 q3
    · obtain ⟨xs, e4, e3⟩ := lsOf_bind e3
      obtain ⟨p1, vs1, xs1, rfl, h4, r4, z⟩ := lsOf_rel h3.rel rs' e4
      cases z
      exact .inr (.inr ⟨_, _, rfl, SqL.of h4, fun p hp => mkl_ok h3.rel hp (cut_rels r4) e3 q3⟩)
/-! ### xs.append(e), xs.pop() on tagged lists -/
def wrt (t : Nat) (xs : List Sv) : M PUnit := fun μ => some (.ok ⟨⟩ (μ.set t (.lst xs)))
def tagOf (s : Sv) : M (Nat × List Sv) := fun μ => match s with
  | .ref t => match μ[t]? with
    | some (.lst xs) => some (.ok (t, xs) μ)
    | _ => none
  | _ => none
theorem tag_bind {α : Type} {s : Sv} {k : Nat × List Sv → M α} {μ : Mu} {r : Res α} (h : M.bind (tagOf s) k μ = some r) : ∃ t xs, s = .ref t ∧ μ[t]? = some (.lst xs) ∧ k (t, xs) μ = some r := by
  cases s with
  | dat d => cases h
  | scr d => cases h
  | ref t =>
    cases q : μ[t]? with
    | none =>
      unfold M.bind tagOf at h
      simp only [q] at h
      cases h
    | some o =>
      cases o with
      | gone =>
        unfold M.bind tagOf at h
        simp only [q] at h
        cases h
      | lst xs =>
        unfold M.bind tagOf at h
        simp only [q] at h
        exact ⟨t, xs, rfl, q, h⟩
theorem write_rel {α : Type} {K : PySem.W.Frag} {W : Wd} {H : Hp} {μ : Mu} {t : Nat} {ys xs : List Sv} {vs : List V} {k : PUnit → M α} {r : Res α} (R : Rel K W H μ) (e : μ[t]? = some (.lst ys)) (h : SvRs K W μ.length vs xs) (e2 : M.bind (wrt t xs) k μ = some r) :
    Rel K W (upd H (W.η t) (.lst vs)) (μ.set t (.lst xs)) ∧ Grow W H μ W (upd H (W.η t) (.lst vs)) (μ.set t (.lst xs)) ∧ k ⟨⟩ (μ.set t (.lst xs)) = some r :=
  ⟨R.write e h, grow_write e, e2⟩
def appV (Fa : Rho → M Sv) (Fb : Rho → M Sv) (ρ : Rho) : M Sv := (Fa ρ).bind fun o => (tagOf o).bind fun _ => (Fb ρ).bind fun x => (tagOf o).bind fun z => if szOk (z.2.length + 1) = true then (wrt z.1 (z.2 ++ [x])).bind fun _ => M.ret (.dat .none) else M.fail
theorem x_append {apos : Pos} (ho : PX X E a Fa) (hb : PX X E b Fb)
    (hbase : attributeBase a "append" X.env (eval a X.env) = eval a X.env := by rfl)
    (hfew : ((backTo pos (starEach [b] X.env)).all (fun x => !x.1) && (backToKw pos (keywordEach [] X.env)).all (fun x => x.1.isSome) && decide (([b] : List Expr).length + ([] : List Keyword).length + (if ([] : List Keyword).isEmpty then 0 else 1) < 30)) = true := by rfl)
    (hline : (apos.endLine == pos.line) = true := by rfl) (hs : starEach [b] X.env = (false, eval b X.env) :: starEach [] X.env := by rfl) (hplain : (backTo pos (starEach [] X.env)).any (·.1) = false := by rfl) :
    PX X E (.Call (.Attribute a "append" apos) [b] [] pos) (appV Fa Fb) :=
  pe_weak (pe_bm PySem.F.plainAttrs_list PySem.F.slot_list_append PySem.F.type_list_append mt_append ho (pa_cons hb pa_nil hs) hbase hfew hline hs hplain) fun σ H Q ⟨W, ρ, μ, r, h, e, q⟩ => by
    refine tX_bind h e q fun v o W1 H1 μ1 g1 h1 ro e1 q1 => ?_
    obtain ⟨t, xs, rfl, et, e1⟩ := tag_bind e1
    obtain ⟨ht, rfl⟩ := ro
    obtain ⟨vs, z1, z2⟩ := h1.rel.obj t _ et
    refine ⟨.inl ⟨rfl, vs, SqL.of z1⟩, ?_⟩
    refine tX_bind h1 e1 q1 fun u x W2 H2 μ2 g2 h2 rx e2 q2 => ?_
    obtain ⟨t', ys, te, et2, e2⟩ := tag_bind e2
    cases te
    obtain ⟨us, y1, y2⟩ := h2.rel.obj t _ et2
    obtain ⟨c, e2⟩ := iff_ok e2
    have ra : SvRs X.K W2 μ2.length (us ++ [u]) (ys ++ [x]) := y2.append (.cons rx .nil)
    obtain ⟨R3, g3, e3⟩ := write_rel h2.rel et2 ra e2
    cases e3
    refine ⟨W1.η t, us, u, rfl, rfl, ?_, ?_, ?_⟩
    · rw [← g2.at_ t ht]
      exact y1
    · rw [y2.len]
      have : ys.length + 1 < sizeLine := szOk_lt c
      omega
    · rw [← g2.at_ t ht]
      exact q2 _ _ g3 R3 _ .non
end

/-! ### statements -/
inductive Out where
  | nx (ρ : Rho)
  | rt (s : Sv)
  | bk (ρ : Rho)
  | ct (ρ : Rho)
def OutOk (K : PySem.W.Frag) (D : Ends) (W : Wd) (H : Hp) (o : Out) (μ : Mu) : Prop := match o with
  | .nx ρ => ∀ σ, Sls K W μ.length σ ρ → D.nx σ H
  | .rt s => ∀ v, SvR K W μ.length v s → D.rt v H
  | .bk ρ => ∀ σ, Sls K W μ.length σ ρ → D.bk σ H
  | .ct ρ => ∀ σ, Sls K W μ.length σ ρ → D.ct σ H
def tG (K : PySem.W.Frag) (E : XK) (G : Rho → M Out) : TS := fun D σ H => ∃ W ρ μ r, Here K W σ H ρ μ ∧ G ρ μ = some r ∧ Ko K E W H μ r (OutOk K D)
abbrev PSX (X : Cx) (E : XK) (st : Stmt) (G : Rho → M Out) : Prop := PS X st (tG X.K E G)
abbrev PSSX (X : Cx) (E : XK) (st : List Stmt) (G : Rho → M Out) : Prop := PSs X st (tG X.K E G)
section
variable {X : Cx} {E : XK} {e a b c : Expr} {Fa Fb Fc : Rho → M Sv} {G G' : Rho → M Out} {st : Stmt} {rest body : List Stmt} {pos p : Pos}
theorem tG_bind {α : Type} {K : PySem.W.Frag} {W : Wd} {σ : L2.St} {H : Hp} {ρ : Rho} {μ : Mu} {k : Out → M α} {r : Res α} {P : Wd → Hp → α → Mu → Prop} {D : Ends} (h : Here K W σ H ρ μ) (e : M.bind (G ρ) k μ = some r) (q : Ko K E W H μ r P)
    (step : ∀ o W1 H1 μ1, Grow W H μ W1 H1 μ1 → Rel K W1 H1 μ1 → k o μ1 = some r → Ko K E W1 H1 μ1 r P → OutOk K D W1 H1 o μ1) : tG K E G D σ H := by
  rcases bind_some e with ⟨a, μ1, e1, e2⟩ | ⟨c, μ1, e1, rfl⟩
  · exact ⟨W, ρ, μ, _, h, e1, fun W1 H1 g R => step a W1 H1 μ1 g R e2 (q.later g)⟩
  · exact ⟨W, ρ, μ, _, h, e1, q⟩
def gSkip (ρ : Rho) : M Out := M.ret (.nx ρ)
def gSeq (G G' : Rho → M Out) (ρ : Rho) : M Out := (G ρ).bind fun o => match o with
  | .nx ρ' => G' ρ'
  | o => M.ret o
theorem q_nil : PSSX X E [] gSkip := pss_weak pss_nil fun D σ H ⟨W, ρ, μ, r, h, e, q⟩ => by
  cases e
  exact q _ _ (Grow.refl _ _ _) h.rel _ h.sl
theorem q_one (h : PSX X E st G) : PSSX X E [st] G := pss_one h
theorem q_cons (h : PSX X E st G) (h2 : PSSX X E rest G') : PSSX X E (st :: rest) (gSeq G G') := pss_weak (pss_cons h h2) fun D σ H ⟨W, ρ, μ, r, h, e, q⟩ => by
  refine tG_bind h e q fun o W1 H1 μ1 g R e1 q1 => ?_
  cases o with
  | nx ρ' => exact fun σ' s' => ⟨W1, ρ', μ1, r, ⟨R, s'⟩, e1, q1⟩
  | rt s =>
    cases e1
    exact q1 _ _ (Grow.refl _ _ _) R
  | bk ρ' =>
    cases e1
    exact q1 _ _ (Grow.refl _ _ _) R
  | ct ρ' =>
    cases e1
    exact q1 _ _ (Grow.refl _ _ _) R
def gExpr (Fa : Rho → M Sv) (ρ : Rho) : M Out := (Fa ρ).bind fun _ => M.ret (.nx ρ)
theorem s_expr (ha : PX X E a Fa) (hs : swapsWith a none pos.line X.env = pure false := by rfl) : PSX X E (.Expr a pos) (gExpr Fa) := ps_weak (ps_expr ha hs) fun D σ H ⟨W, ρ, μ, r, h, e, q⟩ => by
  refine tX_bind h e q fun v s W1 H1 μ1 g1 h1 rs e1 q1 => ?_
  cases e1
  exact q1 _ _ (Grow.refl _ _ _) h1.rel _ h1.sl
def gRet (Fa : Rho → M Sv) (ρ : Rho) : M Out := (Fa ρ).bind fun s => M.ret (.rt s)
theorem s_ret (ha : PX X E a Fa) : PSX X E (.Return (some a) pos) (gRet Fa) := ps_weak (ps_ret ha) fun D σ H ⟨W, ρ, μ, r, h, e, q⟩ => by
  refine tX_bind h e q fun v s W1 H1 μ1 g1 h1 rs e1 q1 => ?_
  cases e1
  exact q1 _ _ (Grow.refl _ _ _) h1.rel _ rs
def gIf (F : Rho → M Bool) (G G' : Rho → M Out) (ρ : Rho) : M Out := (F ρ).bind fun k => if k = true then G ρ else G' ρ
theorem s_if {F : Rho → M Bool} {els : List Stmt} (hc : PTX X E c F) (ha : PSSX X E body G) (hb : PSSX X E els G') : PSX X E (.If c body els pos) (gIf F G G') := ps_weak (ps_if hc ha hb) fun D σ H ⟨W, ρ, μ, r, h, e, q⟩ => by
  refine tT_bind h e q fun k W1 H1 μ1 g1 h1 e1 q1 => ?_
  cases k with
  | false =>
    rw [if_neg Bool.false_ne_true] at e1 ⊢
    exact ⟨W1, ρ, μ1, r, h1, e1, q1⟩
  | true =>
    rw [if_pos rfl] at e1 ⊢
    exact ⟨W1, ρ, μ1, r, h1, e1, q1⟩
/-! targets -/
def tP (K : PySem.W.Frag) (E : XK) (T : Sv → Rho → M Rho) : TG := fun v σ H Q => ∃ W ρ μ s r, Here K W σ H ρ μ ∧ SvR K W μ.length v s ∧ T s ρ μ = some r ∧ Ko K E W H μ r fun W' H' ρ' μ' => ∀ σ', Sls K W' μ'.length σ' ρ' → Q σ' H'
def tPs (K : PySem.W.Frag) (E : XK) (T : List Sv → Rho → M Rho) : TGs := fun v σ H Q => ∃ W ρ μ s r, Here K W σ H ρ μ ∧ SvRs K W μ.length v s ∧ T s ρ μ = some r ∧ Ko K E W H μ r fun W' H' ρ' μ' => ∀ σ', Sls K W' μ'.length σ' ρ' → Q σ' H'
abbrev PGX (X : Cx) (E : XK) (tg : Expr) (T : Sv → Rho → M Rho) : Prop := PG X tg (tP X.K E T)
abbrev PGsX (X : Cx) (E : XK) (tg : List Expr) (T : List Sv → Rho → M Rho) : Prop := PGs X tg (tPs X.K E T)
theorem pg_weak {X : Cx} {tg : Expr} {t t' : TG} (h : PG X tg t) (w : ∀ v σ H Q, t' v σ H Q → t v σ H Q) : PG X tg t' := ⟨fun pins s σ H v u Q I r q => h.run pins s σ H v u Q I r (w _ _ _ _ q)⟩
theorem pgs_weak {X : Cx} {tg : List Expr} {t t' : TGs} (h : PGs X tg t) (w : ∀ v σ H Q, t' v σ H Q → t v σ H Q) : PGs X tg t' := ⟨fun pins s σ H v u Q I r q => h.run pins s σ H v u Q I r (w _ _ _ _ q)⟩
def gNm (i : Nat) (s : Sv) (ρ : Rho) : M Rho := M.ret (ρ.set i (some s))
theorem pg_nm (i : Nat) {x : Str} (hN : X.N.Nodup) (hi : X.N[i]? = some x := by rfl) (hx : Loc X.env.scope x := by first | exact Or.inl rfl | exact Or.inr rfl) (hf : X.fn x = true ∨ X.env.scope.names.lookup x = some .local := by first | exact .inl rfl | exact .inr rfl) : PGX X E (.Name x pos) (gNm i) :=
  pg_weak (pg_name hN hi hx hf) fun v σ H Q ⟨W, ρ, μ, s, r, h, rs, e, q⟩ => by
    cases e
    exact q _ _ (Grow.refl _ _ _) h.rel _ (h.sl.set i rs)
def gsNil (ss : List Sv) (ρ : Rho) : M Rho := match ss with
  | [] => M.ret ρ
  | _ => M.fail
def gsCons (T : Sv → Rho → M Rho) (U : List Sv → Rho → M Rho) (ss : List Sv) (ρ : Rho) : M Rho := match ss with
  | s :: r => (T s ρ).bind fun ρ' => U r ρ'
  | _ => M.fail
theorem pgs_0 : PGsX X E [] gsNil := pgs_weak pgs_nil fun v σ H Q ⟨W, ρ, μ, s, r, h, rs, e, q⟩ => by
  unfold gsNil at e
  split at e
  · cases e
    cases rs
    exact ⟨rfl, q _ _ (Grow.refl _ _ _) h.rel _ h.sl⟩
  · cases e
theorem pgs_c {t : Expr} {ts : List Expr} {T : Sv → Rho → M Rho} {U : List Sv → Rho → M Rho} (h1 : PGX X E t T) (h2 : PGsX X E ts U) (hs : (assignEach (t :: ts) X.env).map (·.2) = assign t X.env :: (assignEach ts X.env).map (·.2) := by rfl) : PGsX X E (t :: ts) (gsCons T U) := pgs_weak (pgs_cons h1 h2 hs) fun v σ H Q ⟨W, ρ, μ, s, r, h, rs, e, q⟩ => by
  unfold gsCons at e
  split at e
  · cases rs with
    | cons r1 r2 =>
      refine ⟨_, _, rfl, ?_⟩
      rcases bind_some e with ⟨ρ', μ1, e1, e2⟩ | ⟨c, μ1, e1, rfl⟩
      · exact ⟨W, ρ, μ, _, _, h, r1, e1, fun W1 H1 g R σ1 s1 => ⟨W1, ρ', μ1, _, _, ⟨R, s1⟩, SvRs.grow g r2, e2, q.later g⟩⟩
      · exact ⟨W, ρ, μ, _, _, h, r1, e1, q⟩
  · cases e
def gTp (n : Nat) (U : List Sv → Rho → M Rho) (s : Sv) (ρ : Rho) : M Rho := match s with
  | .dat (.tuple ds) => if decide (ds.length = n) = true then U (ds.map Sv.dat) ρ else M.fail
  | _ => M.fail
theorem pg_tp {ts : List Expr} {U : List Sv → Rho → M Rho} {k : Nat} (n : Nat) (hc : X.calm = true) (h : PGsX X E ts U) (hn : (assignEach ts X.env).length = n := by rfl) (hst : (assignEach ts X.env).findIdx? (·.1) = none := by rfl) : PGX X E (.Tuple ts k pos) (gTp n U) := by
  refine pg_weak (pg_tup hc h hn hst) fun v σ H Q ⟨W, ρ, μ, s, r, h, rs, e, q⟩ => ?_
  unfold gTp at e
  split at e
  · obtain ⟨c, e⟩ := iff_ok e
    cases rs with
    | tup h1 r1 => exact ⟨_, _, rfl, seqT_mono h.rel.sub h1, by rw [r1.len]; exact of_decide_eq_true c, W, ρ, μ, _, r, h, rel_dats r1, e, q⟩
  · cases e
/-- xs[i] = v, xs a tagged list -/
def gSt (Fa Fb : Rho → M Sv) (s : Sv) (ρ : Rho) : M Rho := (Fa ρ).bind fun o => (Fb ρ).bind fun i => (asI i).bind fun k => (tagOf o).bind fun z => (orFail (ixN z.2.length k)).bind fun j => (wrt z.1 (z.2.set j s)).bind fun _ => M.ret ρ
theorem pg_st {o i : Expr} (ho : PX X E o Fa) (hi : PX X E i Fb) (hP : PG X (.Subscript o i pos) (gSub (tX X.K E Fa) (tX X.K E Fb) rSetL)) : PGX X E (.Subscript o i pos) (gSt Fa Fb) := pg_weak hP fun v σ H Q ⟨W, ρ, μ, s, r, h, rs, e, q⟩ => by
  refine tX_bind h e q fun u o W1 H1 μ1 g1 h1 ro e1 q1 => tX_bind h1 e1 q1 fun w i W2 H2 μ2 g2 h2 ri e2 q2 => ?_
  obtain ⟨k, rfl, e2⟩ := asI_bind e2
  cases ri
  obtain ⟨t, xs, rfl, et, e2⟩ := tag_bind e2
  obtain ⟨_, rfl⟩ := ro.grow g2
  obtain ⟨j, ej, e2⟩ := orFail_some e2
  obtain ⟨vs, z1, z2⟩ := h2.rel.obj t _ et
  obtain ⟨R3, g3, e3⟩ := write_rel h2.rel et (z2.set ((rs.grow g1).grow g2) j) e2
  cases e3
  exact ⟨_, vs, k, j, rfl, rfl, z1, by rw [z2.len]; exact ej, q2 _ _ g3 R3 _ (h2.sl.grow g3)⟩
def gAsg (Fa : Rho → M Sv) (T : Sv → Rho → M Rho) (ρ : Rho) : M Out := (Fa ρ).bind fun s => (T s ρ).bind fun ρ' => M.ret (.nx ρ')
theorem asg_ent {K : PySem.W.Frag} {W : Wd} {σ : L2.St} {H : Hp} {ρ : Rho} {μ : Mu} {T : Sv → Rho → M Rho} {s : Sv} {v : V} {r : Res Out} {D : Ends} (h : Here K W σ H ρ μ) (rs : SvR K W μ.length v s) (e : M.bind (T s ρ) (fun ρ' => M.ret (.nx ρ')) μ = some r) (q : Ko K E W H μ r (OutOk K D)) :
    tP K E T v σ H D.nx := by
  rcases bind_some e with ⟨ρ', μ1, e1, e2⟩ | ⟨c, μ1, e1, rfl⟩
  · cases e2
    exact ⟨W, ρ, μ, s, _, h, rs, e1, fun W1 H1 g R => q W1 H1 g R⟩
  · exact ⟨W, ρ, μ, s, _, h, rs, e1, q⟩
theorem s_asg {tg : Expr} {T : Sv → Rho → M Rho} (ha : PX X E a Fa) (hg : PGX X E tg T) (hs : swapsWithSole [tg] a pos.line X.env = pure false := by rfl) (hw : swappedStores [tg] a X.env = pure none := by rfl) (h1 : (assignEach [tg] X.env).map (·.2) = [assign tg X.env] := by rfl) : PSX X E (.Assign [tg] a pos) (gAsg Fa T) :=
  ps_weak (ps_asg ha hg hs hw h1) fun D σ H ⟨W, ρ, μ, r, h, e, q⟩ => tX_bind h e q fun v s W1 H1 μ1 g1 h1 rs e1 q1 => asg_ent h1 rs e1 q1
def gSet (i : Nat) (Fa : Rho → M Sv) (ρ : Rho) : M Out := (Fa ρ).bind fun s => M.ret (.nx (ρ.set i (some s)))
theorem s_set (i : Nat) {x : Str} {pos' : Pos} (hN : X.N.Nodup) (ha : PX X E a Fa) (hi : X.N[i]? = some x := by rfl) (hx : Loc X.env.scope x := by first | exact Or.inl rfl | exact Or.inr rfl) (hs : swapsWith a (some (.Name x pos')) pos.line X.env = pure false := by rfl)
    (hf : X.fn x = true ∨ X.env.scope.names.lookup x = some .local := by first | exact .inl rfl | exact .inr rfl) : PSX X E (.Assign [.Name x pos'] a pos) (gSet i Fa) := ps_weak (ps_set hN hi hx ha hs hf) fun D σ H ⟨W, ρ, μ, r, h, e, q⟩ => by
  refine tX_bind h e q fun v s W1 H1 μ1 g1 h1 rs e1 q1 => ?_
  cases e1
  exact q1 _ _ (Grow.refl _ _ _) h1.rel _ (h1.sl.set i rs)
def gPar (i j : Nat) (Fs : Rho → M (List Sv)) (ρ : Rho) : M Out := (Fs ρ).bind fun ss => match ss with
  | [s, t] => M.ret (.nx ((ρ.set i (some s)).set j (some t)))
  | _ => M.fail
theorem s_par (i j : Nat) {x y : Str} {px py pt : Pos} {kt k2 pt2} {Fs : Rho → M (List Sv)} (hc : X.calm = true) (hN : X.N.Nodup) (ha : PAX X E [a, b] Fs) (hw : swappedStores [.Tuple [.Name x px, .Name y py] kt pt] (.Tuple [a, b] k2 pt2) X.env = pure (some [x, y]))
    (hi : X.N[i]? = some x := by rfl) (hj : X.N[j]? = some y := by rfl) (hij : i ≠ j := by decide) (hx : X.env.scope.names.lookup x = some .local := by rfl) (hy : X.env.scope.names.lookup y = some .local := by rfl)
    (hs : swapsWithSole [.Tuple [.Name x px, .Name y py] kt pt] (.Tuple [a, b] k2 pt2) pos.line X.env = pure false := by rfl) : PSX X E (.Assign [.Tuple [.Name x px, .Name y py] kt pt] (.Tuple [a, b] k2 pt2) pos) (gPar i j Fs) :=
  ps_weak (ps_par hc hN hi hj hij hx hy ha hw hs) fun D σ H ⟨W, ρ, μ, r, h, e, q⟩ => by
    refine tAr_bind h e q fun vs ss W1 H1 μ1 g1 h1 rs e1 q1 => ?_
    split at e1
    · cases e1
      obtain ⟨v, w, rfl, r1, r2⟩ := rels2 rs
      exact ⟨v, w, rfl, q1 _ _ (Grow.refl _ _ _) h1.rel _ ((h1.sl.set i r1).set j r2)⟩
    · cases e1
theorem rels3 {K : PySem.W.Frag} {W : Wd} {n : Nat} {xs : List V} {s t u : Sv} (h : SvRs K W n xs [s, t, u]) : ∃ x y z, xs = [x, y, z] ∧ SvR K W n x s ∧ SvR K W n y t ∧ SvR K W n z u := by
  cases h with
  | cons h r =>
    obtain ⟨y, z, rfl, h2, h3⟩ := rels2 r
    exact ⟨_, y, z, rfl, h, h2, h3⟩
def gPar3 (i j l : Nat) (Fs : Rho → M (List Sv)) (ρ : Rho) : M Out := (Fs ρ).bind fun ss => match ss with
  | [s, t, u] => M.ret (.nx (((ρ.set i (some s)).set j (some t)).set l (some u)))
  | _ => M.fail
theorem s_par3 (i j l : Nat) {x y z : Str} {px py pz pt : Pos} {kt k2 pt2} {Fs : Rho → M (List Sv)} (hc : X.calm = true) (hN : X.N.Nodup) (ha : PAX X E [a, b, c] Fs)
    (hw : swappedStores [.Tuple [.Name x px, .Name y py, .Name z pz] kt pt] (.Tuple [a, b, c] k2 pt2) X.env = pure (some [x, y, z]))
    (hi : X.N[i]? = some x := by rfl) (hj : X.N[j]? = some y := by rfl) (hl : X.N[l]? = some z := by rfl) (hij : i ≠ j := by decide) (hil : i ≠ l := by decide) (hjl : j ≠ l := by decide) (hx : X.env.scope.names.lookup x = some .local := by rfl) (hy : X.env.scope.names.lookup y = some .local := by rfl)
    (hz : X.env.scope.names.lookup z = some .local := by rfl) (hs : swapsWithSole [.Tuple [.Name x px, .Name y py, .Name z pz] kt pt] (.Tuple [a, b, c] k2 pt2) pos.line X.env = pure false := by rfl) :
    PSX X E (.Assign [.Tuple [.Name x px, .Name y py, .Name z pz] kt pt] (.Tuple [a, b, c] k2 pt2) pos) (gPar3 i j l Fs) :=
  ps_weak (ps_par3 hc hN hi hj hl hij hil hjl hx hy hz ha hw hs) fun D σ H ⟨W, ρ, μ, r, h, e, q⟩ => by
    refine tAr_bind h e q fun vs ss W1 H1 μ1 g1 h1 rs e1 q1 => ?_
    split at e1
    · cases e1
      obtain ⟨v, w, u, rfl, r1, r2, r3⟩ := rels3 rs
      exact ⟨v, w, u, rfl, q1 _ _ (Grow.refl _ _ _) h1.rel _ (((h1.sl.set i r1).set j r2).set l r3)⟩
    · cases e1
/-! ### what a for walks -/
structure Wk (K : PySem.W.Frag) (J : It) (W : Wd) (ds : List PyData) : Prop where
  go : ∀ (i : Nat) (d : PyData) (W1 : Wd) (H : Hp) (μ : Mu), Same W.S W1.S → Rel K W1 H μ → ds[i]? = some d → J.go i H
  yld : ∀ (i : Nat) (d : PyData) (W1 : Wd) (H : Hp) (μ : Mu) (x : V) (H' : Hp), Same W.S W1.S → Rel K W1 H μ → ds[i]? = some d → J.yld i H x H' → ∃ W2, Grow W1 H μ W2 H' μ ∧ Rel K W2 H' μ ∧ Dq K W2.S x d
  stop : ∀ (i : Nat) (W1 : Wd) (H : Hp) (μ : Mu), Same W.S W1.S → Rel K W1 H μ → ds.length ≤ i → J.stop i H
def tI (K : PySem.W.Frag) (E : XK) (F : Rho → M (List PyData)) : TI := fun σ H R => ∃ W ρ μ r, Here K W σ H ρ μ ∧ F ρ μ = some r ∧ Ko K E W H μ r fun W' H' ds μ' => ∀ J, Wk K J W' ds → R J H'
abbrev PIX (X : Cx) (E : XK) (tg : Expr) (e : Expr) (F : Rho → M (List PyData)) : Prop := PI X tg e (tI X.K E F)
theorem pi_weak {X : Cx} {tg e : Expr} {t t' : TI} (h : PI X tg e t) (w : ∀ σ H Q, t' σ H Q → t σ H Q) : PI X tg e t' := ⟨fun pins s σ H Q I q => h.run pins s σ H Q I (w _ _ _ q)⟩
theorem wk_list {K : PySem.W.Frag} {W : Wd} {a : Addr} {vs : List V} {ds : List PyData} (h : W.S a = some (.lst vs)) (r : Dqs K W.S vs ds) : Wk K (Itl K a) W ds where
  go := fun i d W1 H μ g R e => by
    obtain ⟨v, a1, _⟩ := r.getD e
    exact ⟨vs, v, SqL.of (R.sub _ _ (g _ _ h)), a1⟩
  yld := fun i d W1 H μ x H' g R e y => by
    obtain ⟨rfl, y2⟩ := y
    obtain ⟨v, a1, a2⟩ := r.getD e
    have z := y2 vs (SqL.of (R.sub _ _ (g _ _ h)))
    rw [a1] at z
    cases z
    exact ⟨W1, Grow.refl _ _ _, R, Dq.mono g a2⟩
  stop := fun i W1 H μ g R e => ⟨vs, SqL.of (R.sub _ _ (g _ _ h)), by rw [r.len]; exact e⟩
theorem wk_tup {K : PySem.W.Frag} {W : Wd} {a : Addr} {vs : List V} {ds : List PyData} (h : SqT K W.S a vs) (r : Dqs K W.S vs ds) : Wk K (Itt K a) W ds where
  go := fun i d W1 H μ g R e => by
    obtain ⟨v, a1, _⟩ := r.getD e
    exact ⟨vs, v, seqT_mono R.sub (seqT_mono g h), a1⟩
  yld := fun i d W1 H μ x H' g R e y => by
    obtain ⟨rfl, y2⟩ := y
    obtain ⟨v, a1, a2⟩ := r.getD e
    have z := y2 vs (seqT_mono R.sub (seqT_mono g h))
    rw [a1] at z
    cases z
    exact ⟨W1, Grow.refl _ _ _, R, Dq.mono g a2⟩
  stop := fun i W1 H μ g R e => ⟨vs, seqT_mono R.sub (seqT_mono g h), by rw [r.len]; exact e⟩
/-- a for over a list or a tuple of data -/
def seqOf (s : Sv) : M (List PyData) := match s with
  | .dat (.list ds) => M.ret ds
  | .dat (.tuple ds) => M.ret ds
  | _ => M.fail
def seqV (Fa : Rho → M Sv) (ρ : Rho) : M (List PyData) := (Fa ρ).bind seqOf
theorem i_seq {tg : Expr} (ha : PX X E a Fa) : PIX X E tg a (seqV Fa) := by
  refine ⟨fun pins s σ H R I ⟨W, ρ, μ, r, h, e, q⟩ => ?_⟩
  rcases bind_some e with ⟨x, μ1, e1, e2⟩ | ⟨c, μ1, e1, rfl⟩
  · have e2' := e2
    unfold seqOf at e2
    split at e2
    · refine (pi_list ha).run pins s σ H R I ⟨W, ρ, μ, _, h, e1, fun W1 H1 g R1 v rv => ?_⟩
      cases e2
      cases rv with
      | lst h1 r1 => exact ⟨_, rfl, ⟨_, SqL.of (R1.sub _ _ h1)⟩, q W1 H1 g R1 _ (wk_list h1 r1)⟩
    · refine (pi_tup ha).run pins s σ H R I ⟨W, ρ, μ, _, h, e1, fun W1 H1 g R1 v rv => ?_⟩
      cases e2
      cases rv with
      | tup h1 r1 => exact ⟨_, rfl, ⟨_, seqT_mono R1.sub h1⟩, q W1 H1 g R1 _ (wk_tup h1 r1)⟩
    · cases e2
  · exact (pi_list ha).run pins s σ H R I ⟨W, ρ, μ, _, h, e1, q⟩
def fromTo (lo : Int) (n : Nat) : List PyData := (List.range n).map fun k => .int (lo + (k : Nat))
theorem wk_range {K : PySem.W.Frag} {W : Wd} {lo : Int} {n : Nat} : Wk K (Itr lo n) W (fromTo lo n) where
  go := fun i d W1 H μ g R e => by
    have := (List.getElem?_eq_some_iff.mp e).1
    show i < n
    simpa [fromTo] using this
  yld := fun i d W1 H μ x H' g R e y => by
    obtain ⟨rfl, rfl⟩ := y
    have hi : i < n := by
      have := (List.getElem?_eq_some_iff.mp e).1
      simpa [fromTo] using this
    have : d = .int (lo + (i : Nat)) := by
      unfold fromTo at e
      rw [List.getElem?_map, List.getElem?_range hi] at e
      exact (Option.some.inj e).symm
    subst this
    exact ⟨W1, Grow.refl _ _ _, R, .int _⟩
  stop := fun i W1 H μ g R e => by
    show n ≤ i
    simpa [fromTo] using e
def big62 (i : Int) : Bool := decide (-(2 ^ 62) ≤ i) && decide (i < 2 ^ 62)
def rngV (Fa : Rho → M Sv) (ρ : Rho) : M (List PyData) := (Fa ρ).bind fun s => (asI s).bind fun i => if big62 i = true then M.ret (fromTo 0 i.toNat) else M.fail
theorem i_rng {tg : Expr} (hg : Gl X "range") (hm : X.mg "range" = none) (ha : PX X E a Fa) (hs : starEach [a] X.env = (false, eval a X.env) :: starEach [] X.env := by rfl) (hs2 : starEach [a] X.env = [(false, eval a X.env)] := by rfl) : PIX X E tg (.Call (.Name "range" p) [a] [] pos) (rngV Fa) :=
  pi_weak (pi_range1 hg hm (pa_cons ha pa_nil hs) hs2) fun σ H R ⟨W, ρ, μ, r, h, e, q⟩ => by
    refine tX_bind h e q fun v s W1 H1 μ1 g1 h1 rs e1 q1 => ?_
    obtain ⟨i, rfl, e1⟩ := asI_bind e1
    obtain ⟨c, e1⟩ := iff_ok e1
    obtain ⟨c1, c2⟩ := Bool.and_eq_true_iff.mp c
    cases rs
    cases e1
    exact ⟨i, rfl, of_decide_eq_true c1, of_decide_eq_true c2, q1 _ _ (Grow.refl _ _ _) h1.rel _ wk_range⟩
end
end Pf

namespace Pf
open PySem PySem.Spec PyProof.Rows L2

section
variable {X : Cx} {E : XK} {e a b c iter tg : Expr} {Fa Fb Fc : Rho → M Sv} {G G' B : Rho → M Out} {st : Stmt} {rest body : List Stmt} {pos p : Pos} {T : Sv → Rho → M Rho} {Fi : Rho → M (List PyData)}
/-! ### for -/
def loopG (T : Sv → Rho → M Rho) (B : Rho → M Out) : List PyData → Rho → M Out
  | [], ρ => M.ret (.nx ρ)
  | d :: ds, ρ => (T (.dat d) ρ).bind fun ρ1 => (B ρ1).bind fun o => match o with
    | .nx ρ2 => loopG T B ds ρ2
    | .ct ρ2 => loopG T B ds ρ2
    | .bk ρ2 => M.ret (.nx ρ2)
    | .rt s => M.ret (.rt s)
def gFor (Fi : Rho → M (List PyData)) (T : Sv → Rho → M Rho) (B : Rho → M Out) (ρ : Rho) : M Out := (Fi ρ).bind fun ds => loopG T B ds ρ
theorem s_for (hp : PassesOwn (model X.prog X.w) X.A X.env X.xe) (hc : X.calm = true) (hi : PIX X E tg iter Fi) (hg : PGX X E tg T) (hb : PSSX X E body B) (hs : ∀ x, foldedSetIterable iter X.env x = pure x := by intro _; rfl) :
    PSX X E (.For tg iter body [] pos) (gFor Fi T B) := ps_weak (ps_for hp hc hi hg hb hs) fun D σ H ⟨W0, ρ0, μ0, r, h0, e0, q0⟩ => by
  rcases bind_some e0 with ⟨ds, μ1, e1, e2⟩ | ⟨c, μ1, e1, rfl⟩
  · refine ⟨W0, ρ0, μ0, _, h0, e1, fun W1 H1 g1 R1 J wk => ?_⟩
    have q1 := q0.later g1
    refine ⟨fun i m σ H => m = ds.length - i ∧ i ≤ ds.length ∧ ∃ W ρ μ, Here X.K W σ H ρ μ ∧ Same W1.S W.S ∧ loopG T B (ds.drop i) ρ μ = some r ∧ Ko X.K E W H μ r (OutOk X.K D),
      ⟨ds.length, rfl, Nat.zero_le _, W1, ρ0, μ1, h0.next g1 R1, Same.refl _, e2, q1⟩, ?_⟩
    rintro i m σ H ⟨rfl, hi, W, ρ, μ, h, sm, e, q⟩
    by_cases hlt : i < ds.length
    · have hd : ds[i]? = some ds[i] := List.getElem?_eq_getElem hlt
      rw [List.drop_eq_getElem_cons hlt] at e
      refine .inr ⟨wk.go i _ W H μ sm h.rel hd, fun σ' H' => ∃ W ρ μ, Here X.K W σ' H' ρ μ ∧ Same W1.S W.S ∧ loopG T B (ds.drop (i + 1)) ρ μ = some r ∧ Ko X.K E W H' μ r (OutOk X.K D),
        fun σ' H' hN => ⟨ds.length - (i + 1), by omega, rfl, hlt, hN⟩, fun x H' hy => ?_⟩
      obtain ⟨W2, g2, R2, hx⟩ := wk.yld i _ W H μ x H' sm h.rel hd hy
      have h2 : Here X.K W2 σ H' ρ μ := h.next g2 R2
      have q2 := q.later g2
      have sm2 : Same W1.S W2.S := sm.trans g2.same
      have e' : M.bind (T (.dat ds[i]) ρ) (fun ρ1 => (B ρ1).bind fun o => match o with
        | .nx ρ2 => loopG T B (ds.drop (i + 1)) ρ2
        | .ct ρ2 => loopG T B (ds.drop (i + 1)) ρ2
        | .bk ρ2 => M.ret (.nx ρ2)
        | .rt s => M.ret (.rt s)) μ = some r := e
      rcases bind_some e' with ⟨ρ1, μ3, e3, e4⟩ | ⟨c, μ3, e3, rfl⟩
      · refine ⟨W2, ρ, μ, .dat ds[i], _, h2, hx, e3, fun W3 H3 g3 R3 σ3 s3 => ?_⟩
        refine tG_bind ⟨R3, s3⟩ e4 (q2.later g3) fun o W4 H4 μ4 g4 R4 e5 q5 => ?_
        have sm4 : Same W1.S W4.S := (sm2.trans g3.same).trans g4.same
        cases o with
        | nx ρ4 => exact fun σ4 s4 => ⟨W4, ρ4, μ4, ⟨R4, s4⟩, sm4, e5, q5⟩
        | ct ρ4 => exact fun σ4 s4 => ⟨W4, ρ4, μ4, ⟨R4, s4⟩, sm4, e5, q5⟩
        | bk ρ4 =>
          cases e5
          exact q5 _ _ (Grow.refl _ _ _) R4
        | rt s =>
          cases e5
          exact q5 _ _ (Grow.refl _ _ _) R4
      · exact ⟨W2, ρ, μ, .dat ds[i], _, h2, hx, e3, q2⟩
    · refine .inl ⟨wk.stop i W H μ sm h.rel (by omega), ?_⟩
      rw [List.drop_eq_nil_of_le (by omega)] at e
      cases e
      exact q _ _ (Grow.refl _ _ _) h.rel _ h.sl
  · exact ⟨W0, ρ0, μ0, _, h0, e1, q0⟩

/-! ### while, by a bound on its turns -/
def loopW (F : Rho → M Bool) (B : Rho → M Out) : Nat → Rho → M Out
  | 0, _ => M.fail
  | n + 1, ρ => (F ρ).bind fun k => if k = true then (B ρ).bind fun o => match o with
    | .nx ρ2 => loopW F B n ρ2
    | .ct ρ2 => loopW F B n ρ2
    | .bk ρ2 => M.ret (.nx ρ2)
    | .rt s => M.ret (.rt s) else M.ret (.nx ρ)
theorem s_while (n : Nat) {F : Rho → M Bool} (hp : PassesOwn (model X.prog X.w) X.A X.env X.xe) (hc : PTX X E c F) (hb : PSSX X E body B) : PSX X E (.While c body [] pos) (loopW F B n) := ps_weak (ps_while hp hc hb) fun D σ H ⟨W0, ρ0, μ0, r, h0, e0, q0⟩ => by
  refine ⟨fun m σ H => ∃ W ρ μ, Here X.K W σ H ρ μ ∧ loopW F B m ρ μ = some r ∧ Ko X.K E W H μ r (OutOk X.K D), ⟨n, W0, ρ0, μ0, h0, e0, q0⟩, ?_⟩
  rintro m σ H ⟨W, ρ, μ, h, e, q⟩
  cases m with
  | zero => cases e
  | succ m =>
    refine tT_bind h e q fun k W1 H1 μ1 g1 h1 e1 q1 => ?_
    cases k with
    | false =>
      rw [if_neg Bool.false_ne_true] at e1 ⊢
      cases e1
      exact q1 _ _ (Grow.refl _ _ _) h1.rel _ h1.sl
    | true =>
      rw [if_pos rfl] at e1 ⊢
      refine ⟨fun σ' H' => ∃ W ρ μ, Here X.K W σ' H' ρ μ ∧ loopW F B m ρ μ = some r ∧ Ko X.K E W H' μ r (OutOk X.K D), fun σ' H' hN => ⟨m, Nat.lt_succ_self _, hN⟩, ?_⟩
      refine tG_bind h1 e1 q1 fun o W4 H4 μ4 g4 R4 e5 q5 => ?_
      cases o with
      | nx ρ4 => exact fun σ4 s4 => ⟨W4, ρ4, μ4, ⟨R4, s4⟩, e5, q5⟩
      | ct ρ4 => exact fun σ4 s4 => ⟨W4, ρ4, μ4, ⟨R4, s4⟩, e5, q5⟩
      | bk ρ4 =>
        cases e5
        exact q5 _ _ (Grow.refl _ _ _) R4
      | rt s =>
        cases e5
        exact q5 _ _ (Grow.refl _ _ _) R4

/-! ### comprehensions -/
/-- only these slots are written -/
def tPw (K : PySem.W.Frag) (E : XK) (vs : List Nat) (T : Sv → Rho → M Rho) : TG := fun v σ H Q => ∃ W ρ μ s r, Here K W σ H ρ μ ∧ SvR K W μ.length v s ∧ T s ρ μ = some r ∧ Ko K E W H μ r fun W' H' ρ' μ' => ∀ σ', Sls K W' μ'.length σ' ρ' → wipe σ' vs = wipe σ vs → Q σ' H'
def tPws (K : PySem.W.Frag) (E : XK) (vs : List Nat) (T : List Sv → Rho → M Rho) : TGs := fun v σ H Q => ∃ W ρ μ s r, Here K W σ H ρ μ ∧ SvRs K W μ.length v s ∧ T s ρ μ = some r ∧ Ko K E W H μ r fun W' H' ρ' μ' => ∀ σ', Sls K W' μ'.length σ' ρ' → wipe σ' vs = wipe σ vs → Q σ' H'
abbrev PGW (X : Cx) (E : XK) (vs : List Nat) (tg : Expr) (T : Sv → Rho → M Rho) : Prop := PG X tg (tPw X.K E vs T)
abbrev PGsW (X : Cx) (E : XK) (vs : List Nat) (tg : List Expr) (T : List Sv → Rho → M Rho) : Prop := PGs X tg (tPws X.K E vs T)
theorem wipe_out {σ : L2.St} {v : Option V} : ∀ {vs : List Nat} {i : Nat}, i ∈ vs → wipe (σ.set i v) vs = wipe σ vs
  | [], _, h => absurd h List.not_mem_nil
  | k :: vs, i, h => by
    show (wipe (σ.set i v) vs).set k none = (wipe σ vs).set k none
    by_cases hk : i ∈ vs
    · rw [wipe_out hk]
    · have hik : i = k := by
        rcases List.mem_cons.mp h with z | z
        · exact z
        · exact absurd z hk
      subst hik
      have comm : ∀ (ws : List Nat) (σ : L2.St), i ∉ ws → wipe (σ.set i v) ws = (wipe σ ws).set i v := fun ws => by
        induction ws with
        | nil => exact fun _ _ => rfl
        | cons w ws ih =>
          intro σ hw
          show (wipe (σ.set i v) ws).set w none = ((wipe σ ws).set w none).set i v
          rw [ih σ fun z => hw (List.mem_cons_of_mem _ z), List.set_comm _ _ fun z => hw (by rw [z]; exact List.mem_cons_self)]
      rw [comm vs σ hk, List.set_set]
theorem pw_nm (i : Nat) {vs : List Nat} {x : Str} (hN : X.N.Nodup) (hm : i ∈ vs) (hi : X.N[i]? = some x := by rfl) (hx : Loc X.env.scope x := by first | exact Or.inl rfl | exact Or.inr rfl) (hf : X.fn x = true ∨ X.env.scope.names.lookup x = some .local := by first | exact .inl rfl | exact .inr rfl) : PGW X E vs (.Name x pos) (gNm i) :=
  pg_weak (pg_name hN hi hx hf) fun v σ H Q ⟨W, ρ, μ, s, r, h, rs, e, q⟩ => by
    cases e
    exact q _ _ (Grow.refl _ _ _) h.rel _ (h.sl.set i rs) (wipe_out hm)
theorem pws_0 {vs : List Nat} : PGsW X E vs [] gsNil := pgs_weak pgs_nil fun v σ H Q ⟨W, ρ, μ, s, r, h, rs, e, q⟩ => by
  unfold gsNil at e
  split at e
  · cases e
    cases rs
    exact ⟨rfl, q _ _ (Grow.refl _ _ _) h.rel _ h.sl rfl⟩
  · cases e
theorem pws_c {vs : List Nat} {t : Expr} {ts : List Expr} {T : Sv → Rho → M Rho} {U : List Sv → Rho → M Rho} (h1 : PGW X E vs t T) (h2 : PGsW X E vs ts U) (hs : (assignEach (t :: ts) X.env).map (·.2) = assign t X.env :: (assignEach ts X.env).map (·.2) := by rfl) : PGsW X E vs (t :: ts) (gsCons T U) := pgs_weak (pgs_cons h1 h2 hs) fun v σ H Q ⟨W, ρ, μ, s, r, h, rs, e, q⟩ => by
  unfold gsCons at e
  split at e
  · cases rs with
    | cons r1 r2 =>
      refine ⟨_, _, rfl, ?_⟩
      rcases bind_some e with ⟨ρ', μ1, e1, e2⟩ | ⟨c, μ1, e1, rfl⟩
      · refine ⟨W, ρ, μ, _, _, h, r1, e1, fun W1 H1 g R σ1 s1 w1 => ⟨W1, ρ', μ1, _, r, ⟨R, s1⟩, SvRs.grow g r2, e2, ?_⟩⟩
        have q' := q.later g
        cases r with
        | ok ρ2 μ2 => exact fun W2 H2 g2 R2 σ2 s2 w2 => q' W2 H2 g2 R2 σ2 s2 (w2.trans w1)
        | ex c μ2 => exact q'
      · exact ⟨W, ρ, μ, _, _, h, r1, e1, q⟩
  · cases e
theorem pw_tp {vs : List Nat} {ts : List Expr} {U : List Sv → Rho → M Rho} {k : Nat} (n : Nat) (hc : X.calm = true) (h : PGsW X E vs ts U) (hn : (assignEach ts X.env).length = n := by rfl) (hst : (assignEach ts X.env).findIdx? (·.1) = none := by rfl) : PGW X E vs (.Tuple ts k pos) (gTp n U) := by
  refine pg_weak (pg_tup hc h hn hst) fun v σ H Q ⟨W, ρ, μ, s, r, h, rs, e, q⟩ => ?_
  unfold gTp at e
  split at e
  · obtain ⟨c, e⟩ := iff_ok e
    cases rs with
    | tup h1 r1 => exact ⟨_, _, rfl, seqT_mono h.rel.sub h1, by rw [r1.len]; exact of_decide_eq_true c, W, ρ, μ, _, r, h, rel_dats r1, e, q⟩
  · cases e
abbrev PTsX (X : Cx) (E : XK) (es : List Expr) (F : Rho → M Bool) : Prop := PTs X es (tT X.K E F)
theorem pts_weak {X : Cx} {e : List Expr} {t t' : TT} (h : PTs X e t) (w : ∀ σ H Q, t' σ H Q → t σ H Q) : PTs X e t' := ⟨fun pins s σ H Q I q => h.run pins s σ H Q I (w _ _ _ q)⟩
def yes (_ : Rho) : M Bool := M.ret true
theorem ts_nil : PTsX X E [] yes := pts_weak pts_nil fun σ H Q ⟨W, ρ, μ, r, h, e, q⟩ => by
  cases e
  exact q _ _ (Grow.refl _ _ _) h.rel
theorem ts_one {F : Rho → M Bool} (h : PTX X E c F) : PTsX X E [c] F := pts_one h
def wipeR (ρ : Rho) : List Nat → Rho
  | [] => ρ
  | v :: vs => (wipeR ρ vs).set v none
theorem wipe_sl {K : PySem.W.Frag} {W : Wd} {n : Nat} {σ : L2.St} {ρ : Rho} (h : Sls K W n σ ρ) : ∀ vs : List Nat, Sls K W n (wipe σ vs) (wipeR ρ vs)
  | [] => h
  | v :: vs => by
    have ih := wipe_sl h vs
    refine ⟨fun i x e => ?_, ?_⟩
    · have e' : ((wipeR ρ vs).set v none)[i]? = some (some x) := e
      by_cases hv : v = i
      · subst hv
        have hl : v < (wipeR ρ vs).length := by
          have := (List.getElem?_eq_some_iff.mp e').1
          simpa using this
        rw [List.getElem?_set_self hl] at e'
        cases e'
      · rw [List.getElem?_set_ne hv] at e'
        obtain ⟨u, a1, a2⟩ := ih.at_ i x e'
        exact ⟨u, by show ((wipe σ vs).set v none)[i]? = _; rw [List.getElem?_set_ne hv]; exact a1, a2⟩
    · show ((wipe σ vs).set v none).length = ((wipeR ρ vs).set v none).length
      rw [List.length_set, List.length_set, ih.len]
def noEx {α : Type} (m : M α) : M α := fun μ => match m μ with
  | some (.ok a μ') => some (.ok a μ')
  | _ => none
theorem noEx_bind {α β : Type} {m : M α} {k : α → M β} {μ : Mu} {r : Res β} (h : M.bind (noEx m) k μ = some r) : ∃ a μ1, m μ = some (.ok a μ1) ∧ k a μ1 = some r := by
  unfold M.bind noEx at h
  cases e : m μ with
  | none =>
    rw [e] at h
    cases h
  | some x =>
    rw [e] at h
    cases x with
    | ok a μ1 => exact ⟨a, μ1, rfl, h⟩
    | ex c μ1 => cases h
def lcL (T : Sv → Rho → M Rho) (C : Rho → M Bool) (Fe : Rho → M Sv) : List PyData → Rho → M (List Sv)
  | [], _ => M.ret []
  | d :: ds, ρ => (noEx (T (.dat d) ρ)).bind fun ρ1 => (noEx (C ρ1)).bind fun k => if k = true then (noEx (Fe ρ1)).bind fun s => (lcL T C Fe ds ρ).bind fun r => M.ret (s :: r) else lcL T C Fe ds ρ
def lcV (m : Bool) (vs : List Nat) (Fi : Rho → M (List PyData)) (T : Sv → Rho → M Rho) (C : Rho → M Bool) (Fe : Rho → M Sv) (ρ : Rho) : M Sv :=
  (Fi ρ).bind fun ds => if szOk ds.length = true then (lcL T C Fe ds (wipeR ρ vs)).bind fun ss => mkl m ss else M.fail
theorem lcL_noex {T : Sv → Rho → M Rho} {C : Rho → M Bool} {Fe : Rho → M Sv} : ∀ {ds : List PyData} {ρ : Rho} {μ μ' : Mu} {c : Exc}, lcL T C Fe ds ρ μ = some (.ex c μ') → False
  | [], _, _, _, _, e => nomatch e
  | d :: ds, ρ, μ, μ', c, e => by
    obtain ⟨ρ1, μ1, _, e⟩ := noEx_bind e
    obtain ⟨k, μ2, _, e⟩ := noEx_bind e
    cases k with
    | false =>
      rw [if_neg Bool.false_ne_true] at e
      exact lcL_noex e
    | true =>
      rw [if_pos rfl] at e
      obtain ⟨s, μ3, _, e⟩ := noEx_bind e
      rcases bind_some e with ⟨r, μ4, e1, e2⟩ | ⟨c, μ4, e1, e2⟩
      · cases e2
      · exact lcL_noex e1
theorem wipe_get {σ : L2.St} : ∀ {vs : List Nat} {i : Nat}, (wipe σ vs)[i]? = if i < σ.length then (if i ∈ vs then some none else σ[i]?) else none
  | [], i => by
    by_cases h : i < σ.length
    · rw [if_pos h, if_neg List.not_mem_nil]
      rfl
    · rw [if_neg h]
      exact List.getElem?_eq_none (show σ.length ≤ i by omega)
  | v :: vs, i => by
    show ((wipe σ vs).set v none)[i]? = _
    by_cases hv : v = i
    · subst hv
      by_cases h : v < σ.length
      · rw [if_pos h, if_pos List.mem_cons_self, List.getElem?_set_self (by rw [wipe_length]; exact h)]
      · rw [if_neg h]
        exact List.getElem?_eq_none (by rw [List.length_set, wipe_length]; omega)
    · rw [List.getElem?_set_ne hv, wipe_get]
      by_cases h : i < σ.length
      · rw [if_pos h, if_pos h]
        by_cases hm : i ∈ vs
        · rw [if_pos hm, if_pos (List.mem_cons_of_mem _ hm)]
        · rw [if_neg hm, if_neg fun z => by
            rcases List.mem_cons.mp z with z | z
            · exact hv z.symm
            · exact hm z]
      · rw [if_neg h, if_neg h]
theorem wipe_wipe {σ : L2.St} (vs : List Nat) : wipe (wipe σ vs) vs = wipe σ vs := by
  apply List.ext_getElem?
  intro i
  rw [wipe_get, wipe_length, wipe_get]
  by_cases h : i < σ.length
  · rw [if_pos h, if_pos h]
    by_cases hm : i ∈ vs
    · rw [if_pos hm, if_pos hm]
    · rw [if_neg hm, if_neg hm]
  · rw [if_neg h, if_neg h]
/-- what is asked of a comprehension, from the pure reading -/
theorem lc_ent {K : PySem.W.Frag} {m : Bool} {vs : List Nat} {C : Rho → M Bool} {Fe : Rho → M Sv} {σ : L2.St} {H : Hp} {Q : VK} (h : tX K E (lcV m vs Fi T C Fe) σ H Q) : tLc (tI K E Fi) (tPw K E0 vs T) (tT K E0 C) (tX K E0 Fe) vs σ H Q := by
  obtain ⟨W0, ρ0, μ0, r, h0, e0, q0⟩ := h
  rcases bind_some e0 with ⟨ds, μ1, e1, e2⟩ | ⟨c, μ1, e1, rfl⟩
  · refine ⟨W0, ρ0, μ0, _, h0, e1, fun W1 H1 g1 R1 J wk D hD => ?_⟩
    have q1 : KoV K E W1 H1 μ1 r Q := q0.later g1
    obtain ⟨csz, e2⟩ := iff_ok e2
    have hsz : ds.length < sizeLine := szOk_lt csz
    have s1 : Sls K W1 μ1.length (wipe σ vs) (wipeR ρ0 vs) := wipe_sl (h0.sl.grow g1) vs
    refine ⟨fun i n H => n = ds.length - i ∧ i ≤ ds.length ∧ ∃ W μ acc us, Rel K W H μ ∧ Grow W1 H1 μ1 W H μ ∧ Loose W μ D ∧ H D = some (.lst us) ∧ SvRs K W μ.length us acc ∧ acc.length ≤ i ∧
        M.bind (lcL T C Fe (ds.drop i) (wipeR ρ0 vs)) (fun ss => mkl m (acc ++ ss)) μ = some r,
      ⟨ds.length, rfl, Nat.zero_le _, W1, μ1, [], [], R1.lay hD, (Grow.refl _ _ _).out hD fun a ha => upd_ne ha, R1.fresh hD, upd_same, .nil, Nat.le_refl _, e2⟩, ?_⟩
    rintro i n H ⟨rfl, hi, W, μ, acc, us, R, gr, hT, hH, ra, hac, e⟩
    by_cases hlt : i < ds.length
    · have hd : ds[i]? = some ds[i] := List.getElem?_eq_getElem hlt
      rw [List.drop_eq_getElem_cons hlt] at e
      refine .inr ⟨wk.go i _ W H μ gr.same R hd, fun H' => ∃ W μ acc us, Rel K W H' μ ∧ Grow W1 H1 μ1 W H' μ ∧ Loose W μ D ∧ H' D = some (.lst us) ∧ SvRs K W μ.length us acc ∧ acc.length ≤ i + 1 ∧
        M.bind (lcL T C Fe (ds.drop (i + 1)) (wipeR ρ0 vs)) (fun ss => mkl m (acc ++ ss)) μ = some r, fun H' hN => ⟨ds.length - (i + 1), by omega, rfl, hlt, hN⟩, fun x H' hy => ?_⟩
      obtain ⟨W2, g2, R2, hx⟩ := wk.yld i _ W H μ x H' gr.same R hd hy
      obtain ⟨hH2, hT2⟩ := g2.frm D _ hH (fun _ z => by cases z) hT
      rcases bind_some e with ⟨ss, μ9, e3, e4⟩ | ⟨c, μ9, e3, rfl⟩
      · obtain ⟨ρ1, μ3, e5, e3⟩ := noEx_bind e3
        have gg2 := gr.trans g2
        refine ⟨W2, wipeR ρ0 vs, μ, .dat ds[i], _, ⟨R2, s1.grow gg2⟩, hx, e5, fun W3 H3 g3 R3 σ3 s3 w3 => ⟨w3.trans (wipe_wipe vs), ?_⟩⟩
        obtain ⟨hH3, hT3⟩ := g3.frm D _ hH2 (fun _ z => by cases z) hT2
        obtain ⟨k, μ4, e6, e3⟩ := noEx_bind e3
        refine ⟨W3, ρ1, μ3, _, ⟨R3, s3⟩, e6, fun W4 H4 g4 R4 => ?_⟩
        obtain ⟨hH4, hT4⟩ := g4.frm D _ hH3 (fun _ z => by cases z) hT3
        have gg4 := (gg2.trans g3).trans g4
        cases k with
        | false =>
          rw [if_neg Bool.false_ne_true] at e3 ⊢
          refine ⟨W4, μ4, acc, us, R4, gg4, hT4, hH4, ra.grow ((g2.trans g3).trans g4), Nat.le_succ_of_le hac, ?_⟩
          rw [bind_ok e3]
          exact e4
        | true =>
          rw [if_pos rfl] at e3 ⊢
          obtain ⟨s, μ5, e7, e3⟩ := noEx_bind e3
          refine ⟨W4, ρ1, μ4, _, ⟨R4, s3.grow g4⟩, e7, fun W5 H5 g5 R5 y ry => ?_⟩
          obtain ⟨hH5, hT5⟩ := g5.frm D _ hH4 (fun _ z => by cases z) hT4
          have gg5 := gg4.trans g5
          rcases bind_some e3 with ⟨r5, μ6, e8, e9⟩ | ⟨c, μ6, e8, e9⟩
          · cases e9
            refine ⟨us, hH5, ?_, ?_⟩
            · rw [ra.len]
              omega
            · refine ⟨W5, μ5, acc ++ [s], us ++ [y], R5.loose hH5 hT5, gg5.out hD fun a ha => upd_ne ha, hT5, upd_same, (ra.grow (((g2.trans g3).trans g4).trans g5)).append (.cons ry .nil), ?_, ?_⟩
              · rw [List.length_append]
                exact Nat.succ_le_succ hac
              · rw [bind_ok e8, List.append_assoc]
                exact e4
          · cases e9
      · exact absurd e3 lcL_noex
    · refine .inl ⟨wk.stop i W H μ gr.same R (by omega), ?_⟩
      rw [List.drop_eq_nil_of_le (by omega)] at e
      have e' : mkl m (acc ++ []) μ = some r := e
      rw [List.append_nil] at e'
      have R0 : Rel K W (hideA H D) μ := R.hide hH hT
      have g0 : Grow W1 H1 μ1 W (hideA H D) μ := gr.out hD fun a ha => hide_ne ha
      have z := mkl_ok R0 hide_self ra e' (q1.later g0)
      rw [hide_upd hH] at z
      exact z
  · exact ⟨W0, ρ0, μ0, _, h0, e1, q0⟩
/-- [elt for tg in iter if ..] -/
theorem x_lc (m : Bool) {elt : Expr} {ifs : List Expr} {scope : Scope} {own : List (Str × Nat)} {C : Rho → M Bool} {Fe : Rho → M Sv} (hc : X.calm = true) (hN : X.N.Nodup) (hi : PIX X E tg iter Fi) (ok : BlkOk X.N X.env.scope scope own)
    (hg : ∀ (s : Shared) (H : Hp) (D : Addr) (cl : List (Str × Addr)) (fp : List Addr), PGW (X.blk s H scope (compEnvC scope cl D X.env) fp) E0 (own.map (·.2)) tg T)
    (ht : ∀ (s : Shared) (H : Hp) (D : Addr) (cl : List (Str × Addr)) (fp : List Addr), PTsX (X.blk s H scope (compEnvC scope cl D X.env) fp) E0 ifs C)
    (he : ∀ (s : Shared) (H : Hp) (D : Addr) (cl : List (Str × Addr)) (fp : List Addr), PX (X.blk s H scope (compEnvC scope cl D X.env) fp) E0 elt Fe) (hs : ∀ x, foldedSetIterable iter X.env x = pure x := by intro _; rfl) :
    PX X E (.ListComp elt [⟨tg, iter, ifs, 0⟩] scope pos) (lcV m (own.map (·.2)) Fi T C Fe) := pe_weak (pe_lc hc hN hi ok hg ht he hs) fun _ _ _ h => lc_ent h
theorem s_setLc (i : Nat) (m : Bool) {y : Str} {py spos : Pos} {elt : Expr} {ifs : List Expr} {scope : Scope} {own : List (Str × Nat)} {C : Rho → M Bool} {Fe : Rho → M Sv} (hc : X.calm = true) (hN : X.N.Nodup) (hsw : swapsWith (.ListComp elt [⟨tg, iter, ifs, 0⟩] scope pos) (some (.Name y py)) spos.line X.env = pure true)
    (hi : PIX X E tg iter Fi) (ok : BlkOk X.N X.env.scope scope own)
    (hg : ∀ (s : Shared) (H : Hp) (D : Addr) (cl : List (Str × Addr)) (fp : List Addr), PGW (X.blk s H scope (compEnvC scope cl D X.env) fp) E0 (own.map (·.2)) tg T)
    (ht : ∀ (s : Shared) (H : Hp) (D : Addr) (cl : List (Str × Addr)) (fp : List Addr), PTsX (X.blk s H scope (compEnvC scope cl D X.env) fp) E0 ifs C)
    (he : ∀ (s : Shared) (H : Hp) (D : Addr) (cl : List (Str × Addr)) (fp : List Addr), PX (X.blk s H scope (compEnvC scope cl D X.env) fp) E0 elt Fe) (hy : X.N[i]? = some y := by rfl) (hyl : X.env.scope.names.lookup y = some .local := by rfl) (hs : ∀ x, foldedSetIterable iter X.env x = pure x := by intro _; rfl) :
    PSX X E (.Assign [.Name y py] (.ListComp elt [⟨tg, iter, ifs, 0⟩] scope pos) spos) (gSet i (lcV m (own.map (·.2)) Fi T C Fe)) :=
  ps_weak (ps_setLc hc hN hy hyl hsw hi ok hg ht he hs) fun D σ H ⟨W, ρ, μ, r, h, e, q⟩ => by
    refine lc_ent (tX_bind h e q fun v s W1 H1 μ1 g1 h1 rs e1 q1 => ?_)
    cases e1
    exact q1 _ _ (Grow.refl _ _ _) h1.rel _ (h1.sl.set i rs)
end
end Pf

namespace Pf
open PySem PySem.Spec PyProof.Rows L2

/-! ### defs, where no repr is under way -/
structure Gk (P : Program) (w : World) (K : PySem.W.Frag) (mg : Str → Option Value) (base : Heap) (CX : CXT) (k : Nat) (f : Addr) (fd : FuncData) (ps : List Str) (sp : Sp) : Prop where
  glen : ∀ vs H Q E, sp vs H Q E → vs.length = ps.length
  grun : ∀ (A : Around) (below : List Env) (s : Shared) (H : Hp) (ar : Args) (us : List Value) (vs : List V) (Q : VK) (E : XK), A.guards = some [] → Room k A → Env0 P w K mg base A below s H → BindsTo s fd ar (ps.zip us) → Vals vs us → sp vs H Q E →
    codeAny (model P w) A (.call (.ref f) ar) (CR CX below P w H s Q E) s
theorem Gk.of {P : Program} {w : World} {K : PySem.W.Frag} {mg : Str → Option Value} {base : Heap} {CX : CXT} {k : Nat} {f : Addr} {fd : FuncData} {ps : List Str} {sp : Sp} (F : FnOk P w K mg base CX k f fd ps sp) : Gk P w K mg base CX k f fd ps sp :=
  ⟨F.len, fun A o s H a us vs Q E _ hr e b r q => F.run A o s H a us vs Q E hr e b r q⟩
theorem Gk.up {P : Program} {w : World} {K : PySem.W.Frag} {mg : Str → Option Value} {base : Heap} {CX : CXT} {k j : Nat} {f : Addr} {fd : FuncData} {ps : List Str} {sp : Sp} (F : Gk P w K mg base CX j f fd ps sp) (h : j ≤ k) : Gk P w K mg base CX k f fd ps sp :=
  ⟨F.glen, fun A o s H a us vs Q E hg hr => F.grun A o s H a us vs Q E hg (hr.mono h)⟩
section
variable {X : Cx} {CX : CXT} {k : Nat} {f : Addr} {fd : FuncData} {ps : List Str} {sp : Sp} {dvs : List V} {ds : List Value} {E : XK} {x : Str} {p pos : Pos} {e : Expr} {es : List Expr}
theorem g_run {pins : List (Addr × Obj)} {σ : L2.St} {H : Hp} {s : Shared} {Q : VK} {us : List Value} {vs : List V} (F : Gk X.prog X.w X.K X.mg X.base CX k f fd ps sp) (hgd : X.A.guards = some []) (hr : Room k X.A) (hb : Binds X.K fd ps ds) (hd : Vals dvs ds) (hx : Passes CX X E)
    (I : Inv X pins σ H s) (r : Vals vs us) (h : sp (vs ++ dvs) H Q E) : wpAny (model X.prog X.w) X.A (call (.ref f) us) (EP X pins σ Q) X.xe s := by
  have rr : Vals (vs ++ dvs) (us ++ ds) := Vals.append r hd
  have ln : (us ++ ds).length = ps.length := (Vals.length rr).symm.trans (F.glen _ _ _ _ h)
  have gr := F.grun X.A X.stack s H ⟨us, []⟩ (us ++ ds) (vs ++ dvs) Q E hgd hr (Inv.env0 I) (hb s us I.kIn ln) rr h
  refine wpAny_call (codeAny_mono gr fun res s1 hc => ?_)
  match res, hc with
  | .error ex, hc => exact hx pins σ H s ex s1 I hc
  | .ok (.ret u), hc => exact Inv.after I hc
/-! ### the promise of a pure reading -/
def spM (K : PySem.W.Frag) (n : Nat) (Fm : List Sv → M Sv) : Sp := fun vs H Q E => vs.length = n ∧ ∃ W μ ss r, Rel K W H μ ∧ SvRs K W μ.length vs ss ∧ Fm ss μ = some r ∧ KoV K E W H μ r Q
theorem x_call {n : Nat} {Fm : List Sv → M Sv} {dd : List PyData} {Fs : Rho → M (List Sv)} (F : Gk X.prog X.w X.K X.mg X.base CX k f fd ps (spM X.K n Fm)) (hgd : X.A.guards = some []) (hr : Room k X.A) (hm : X.mg x = some (.ref f)) (hk : PySem.W.keepIn X.K (.ref f) = true) (hb : Binds X.K fd ps ds) (hd : Vals dvs ds)
    (hdd : ∀ S, Dqs X.K S dvs dd) (hx : Passes CX X E) (ha : PAX X E (e :: es) Fs) (hg : Gl X x := by rfl)
    (hdb : (x == ("__debug__" : Str)) = false := by decide) (he : starEach (e :: es) X.env = (false, eval e X.env) :: starEach es X.env := by rfl) (hpl : (backTo pos (starEach es X.env)).any (·.1) = false := by rfl) :
    PX X E (.Call (.Name x p) (e :: es) [] pos) (fun ρ => (Fs ρ).bind fun ss => if decide (ss.length + dd.length = n) = true then Fm (ss ++ dd.map Sv.dat) else M.fail) := by
  refine ⟨fun pins s σ H Q I ⟨W, ρ, μ, r, h, e, q⟩ => ?_⟩
  refine wpAny_Call_Name_kw (ld_glob I hg hm ?_ hdb)
  refine PySem.W.callWith_K (h₀ := X.base) I.ok.mod.kin hk ?_ he hpl
  have want : tAr X.K E Fs σ H fun vs H1 => spM X.K n Fm (vs ++ dvs) H1 Q E := tAr_bind h e q fun vs ss W1 H1 μ1 g1 h1 rs e1 q1 => by
    obtain ⟨c, e1⟩ := iff_ok e1
    have rd : SvRs X.K W1 μ1.length dvs (dd.map Sv.dat) := rel_dats (hdd _)
    refine ⟨?_, W1, μ1, _, r, h1.rel, rs.append rd, e1, q1⟩
    have l1 := rs.len
    have l2 := rd.len
    rw [List.length_map] at l2
    have c' := of_decide_eq_true c
    rw [List.length_append]
    omega
  exact thn (ha.run pos pins s σ H _ I want) fun us s1 hz => by
    obtain ⟨vs, H1, J, rv, z⟩ := hz
    exact ⟨J.kIn, g_run F hgd hr hb hd hx J rv z⟩
end

/-! ### a def by its body -/
/-- what a body leaves behind the objects that the caller knows -/
def Wf (μ : Mu) : Prop := ∀ (i : Nat) (xs : List Sv), μ[i]? = some (.lst xs) → ∀ t, Sv.ref t ∈ xs → t < μ.length
def fits (n : Nat) : Sv → Prop
  | .ref t => t < n
  | _ => True
def Agree (n : Nat) (r : Res Sv) (r' : Res Out) : Prop := match r, r' with
  | .ok s μ1, .ok (.rt s') μ2 => s = s' ∧ (∃ g, μ2 = μ1 ++ g) ∧ Wf μ1 ∧ n ≤ μ1.length ∧ fits μ1.length s
  | .ok s μ1, .ok (.nx _) μ2 => s = .dat .none ∧ (∃ g, μ2 = μ1 ++ g) ∧ Wf μ1 ∧ n ≤ μ1.length
  | .ex c μ1, .ex c' μ2 => c = c' ∧ (∃ g, μ2 = μ1 ++ g) ∧ Wf μ1 ∧ n ≤ μ1.length ∧ ∀ f s, c.fld = some (f, s) → fits μ1.length s
  | _, _ => False
section
variable {K : PySem.W.Frag} {W W' : Wd} {H H' : Hp} {μ μ1 g : Mu}
theorem rels_mem {n : Nat} {t : Nat} : ∀ {vs : List V} {xs : List Sv}, SvRs K W n vs xs → Sv.ref t ∈ xs → t < n
  | _, _, .nil, h => absurd h List.not_mem_nil
  | _, x :: _, .cons a r, h => by
    rcases List.mem_cons.mp h with z | z
    · rw [← z] at a
      exact a.1
    · exact rels_mem r z
theorem Rel.wf (R : Rel K W H μ) : Wf μ := fun i xs e t ht => by
  obtain ⟨vs, _, r⟩ := R.obj i _ e
  exact rels_mem r ht
theorem sv_cut {n m : Nat} : ∀ {v : V} {s : Sv}, SvR K W n v s → fits m s → SvR K W m v s
  | _, .dat _, h, _ => h
  | _, .ref _, h, z => ⟨z, h.2⟩
  | _, .scr _, h, _ => h
theorem svs_cut {n m : Nat} : ∀ {vs : List V} {xs : List Sv}, SvRs K W n vs xs → (∀ x ∈ xs, fits m x) → SvRs K W m vs xs
  | _, _, .nil, _ => .nil
  | _, _, .cons a r, h => .cons (sv_cut a (h _ List.mem_cons_self)) (svs_cut r fun x hx => h x (List.mem_cons_of_mem _ hx))
theorem pre_get {i : Nat} {o : MObj} (e : μ1[i]? = some o) : (μ1 ++ g)[i]? = some o := by
  rw [List.getElem?_append_left (List.getElem?_eq_some_iff.mp e).1]
  exact e
theorem Rel.cut (R : Rel K W H (μ1 ++ g)) (wf : Wf μ1) : Rel K W H μ1 where
  sub := R.sub
  obj := fun i o e => by
    cases o with
    | gone => trivial
    | lst xs =>
      obtain ⟨vs, h, r⟩ := R.obj i _ (pre_get e)
      exact ⟨vs, h, svs_cut r fun x hx => by
        cases x with
        | ref t => exact wf i xs e t hx
        | _ => trivial⟩
  own := fun i o e ha => R.own i o (pre_get e) ha
  inj := fun i j o o' e e' => R.inj i j o o' (pre_get e) (pre_get e')
  tab := R.tab
  sm := R.sm
  nt := R.nt
theorem Grow.cut (gr : Grow W H μ W' H' (μ1 ++ g)) (hl : μ.length ≤ μ1.length) : Grow W H μ W' H' μ1 :=
  ⟨⟨hl, gr.gr.same, gr.gr.at_⟩, fun a o h n l => let ⟨h1, l1⟩ := gr.frm a o h n l; ⟨h1, l1.1, fun t ob e ha => l1.2 t ob (pre_get e) ha⟩⟩
/-- what is wanted of the promise's end is wanted of the body's -/
theorem agree_ko {E : XK} {r : Res Sv} {r' : Res Out} {Q : VK} (a : Agree μ.length r r') (q : KoV K E W H μ r Q) : Ko K E W H μ r' (OutOk K { nx := fun _ H' => Q .non H', rt := Q }) := by
  cases r with
  | ok s μ1 =>
    cases r' with
    | ex c μ2 => exact a.elim
    | ok o μ2 =>
      cases o with
      | bk ρ => exact a.elim
      | ct ρ => exact a.elim
      | nx ρ =>
        obtain ⟨rfl, ⟨g, rfl⟩, wf, hl⟩ := a
        exact fun W' H' gr R σ _ => q W' H' (gr.cut hl) (R.cut wf) _ .non
      | rt s' =>
        obtain ⟨rfl, ⟨g, rfl⟩, wf, hl, hs⟩ := a
        exact fun W' H' gr R v rv => q W' H' (gr.cut hl) (R.cut wf) v (sv_cut rv hs)
  | ex c μ1 =>
    cases r' with
    | ok o μ2 => exact a.elim
    | ex c' μ2 =>
      obtain ⟨rfl, ⟨g, rfl⟩, wf, hl, hs⟩ := a
      refine fun W' H' cls d gr R x => q W' H' cls d (gr.cut hl) (R.cut wf) ⟨x.1, ?_⟩
      have x2 := x.2
      cases hf : c.fld with
      | none =>
        rw [hf] at x2
        exact x2
      | some fs =>
        obtain ⟨fn, s⟩ := fs
        rw [hf] at x2
        obtain ⟨dd, v, h1, h2, h3⟩ := x2
        exact ⟨dd, v, h1, h2, sv_cut h3 (hs fn s hf)⟩
end
def ini (N : Nat) (ss : List Sv) : Rho := ss.map some ++ List.replicate (N - ss.length) none
theorem ini_sl {K : PySem.W.Frag} {W : Wd} {n : Nat} {N : List Str} {vs : List V} {ss : List Sv} (h : SvRs K W n vs ss) : Sls K W n (L2.start N vs) (ini N.length ss) := by
  have hl := h.len
  refine ⟨fun i x e => ?_, ?_⟩
  · unfold ini at e
    unfold L2.start
    by_cases hi : i < ss.length
    · rw [List.getElem?_append_left (by rw [List.length_map]; exact hi), List.getElem?_map] at e
      cases q : ss[i]? with
      | none =>
        rw [q] at e
        cases e
      | some y =>
        rw [q] at e
        cases e
        obtain ⟨u, h1, h2⟩ := h.get q
        exact ⟨u, by rw [List.getElem?_append_left (by rw [List.length_map, hl]; exact hi), List.getElem?_map, h1]; rfl, h2⟩
    · rw [List.getElem?_append_right (by rw [List.length_map]; omega), List.getElem?_replicate] at e
      split at e <;> cases e
  · unfold ini L2.start
    rw [List.length_append, List.length_append, List.length_map, List.length_map, List.length_replicate, List.length_replicate, hl]
section
variable {P : Program} {w : World} {K : PySem.W.Frag} {mg : Str → Option Value} {base : Heap} {k : Nat} {f : Addr} {fd : FuncData} {x qual : Str} {st : Stmt} {N ps : List Str}
/-- the context in which a body stands -/
abbrev bx (P : Program) (w : World) (K : PySem.W.Frag) (mg : Str → Option Value) (base : Heap) (N : List Str) (qual : Str) (st : Stmt) (f : Addr) (cdv : Value) (A : Around) (below : List Env) (s : Shared) (H : Hp) (E : XK) : Cx :=
  cxOf (L2.CX P w) P w K mg base N qual (defScope st) f cdv A below s H E
theorem bx_pass {cdv : Value} {A : Around} {below : List Env} {s : Shared} {H : Hp} {E : XK} : Passes (L2.CX P w) (bx P w K mg base N qual st f cdv A below s H E) E := passes_call (takes_of rfl rfl rfl rfl) fun _ _ _ _ h => h
theorem bx_own {cdv : Value} {A : Around} {below : List Env} {s : Shared} {H : Hp} {E : XK} : PassesOwn (model P w) (bx P w K mg base N qual st f cdv A below s H E).A (bx P w K mg base N qual st f cdv A below s H E).env (bx P w K mg base N qual st f cdv A below s H E).xe := passes_of rfl
set_option maxHeartbeats 400000 in
theorem gk_run {sp : Sp} (F : Fun K x qual st f fd) (S : FnScope N ps (defScope st)) (len : ∀ vs H Q E, sp vs H Q E → vs.length = ps.length)
    (body : ∀ (cdv : Value) (_ : fd.code = cdv) (A : Around) (below : List Env) (s : Shared) (H : Hp) (vs : List V) (Q : VK) (E : XK), A.guards = some [] → Room k (bx P w K mg base N qual st f cdv A below s H E).A → sp vs H Q E →
      ∃ t, PSs (bx P w K mg base N qual st f cdv A below s H E) (defBody st) t ∧ t { nx := fun _ H' => Q .non H', rt := Q } (L2.start N vs) H) : Gk P w K mg base (L2.CX P w) (k + 1) f fd ps sp := by
  obtain ⟨oc, od, kV, doc, pm, an, cdv, ct, osl, rfl, lk, hcd⟩ := F.ex
  refine ⟨len, fun A below s H ar us vs Q E hgd hr e0 hb rv hsp => ?_⟩
  have ln := len _ _ _ _ hsp
  have inK : K.In s.heap := e0.mod.kin.keeps fun b o e => And.left (e0.bs b o e)
  have roomy : s.heap.NoLimit := e0.mod.nolimit.keeps fun b o e => And.left (e0.bs b o e)
  have kinds : ∀ y ∈ ps.zip us, (defScope st).names.lookup y.1 = some .local ∨ ((defScope st).names.lookup y.1 = some .cell ∧ ((cellsFrom (s.heap.objs.size + 1) (defScope st).names []).lookup y.1).isSome = true) := by
    intro ⟨n, v⟩ hy
    rcases S.par n (List.of_mem_zip hy).1 with z | z
    · exact .inl z
    · exact .inr ⟨z, PySem.W.cellsFrom_some _ _ _ (.inl z)⟩
  refine codeAny_call_function (Room.depth hr) (inK _ _ lk) rfl S.co S.gen rfl (PySem.W.codeRec_of inK hcd) (hb _ _ _ _ ?_)
  refine wpAny_newFunctionEnv_cells S.kind kinds ?_
  intro env he s1 made
  subst he
  refine ⟨roomy.keeps made.toInCall.keep, codeAny_func ?_⟩
  obtain ⟨t, ht, hq⟩ := body cdv rfl A below s H vs Q E hgd (Room.deeper hr _) hsp
  have I0 : Inv (bx P w K mg base N qual st f cdv A below s H E) [] (L2.start N vs) H s1 := inv_start S hr.hd e0 ln rv made
  refine wpAny_mono (ht.run [] s1 (L2.start N vs) H _ I0 hq) ?_ fun _ _ z => z
  intro fl s2 hs
  have done : ∀ {σ' : L2.St} {H' : Hp} {v : V} {u : Value}, Inv (bx P w K mg base N qual st f cdv A below s H E) [] σ' H' s2 → RelV v u → Q v H' → CE below P w H s Q u s2 := fun J rel q => ⟨_, _, J.os, J.bare, J.base, J.hok, rel, q⟩
  cases fl with
  | brk =>
    obtain ⟨_, _, _, z⟩ := hs
    exact z.elim
  | cont =>
    obtain ⟨_, _, _, z⟩ := hs
    exact z.elim
  | ret u =>
    obtain ⟨v, σ', H', J, rel, q⟩ := hs
    exact done J rel q
  | next =>
    obtain ⟨σ', H', J, q⟩ := hs
    exact done (v := V.non) (u := Value.none) J rfl q
/-- THE RULE: a def by the pure reading of its body -/
theorem gk_of {n : Nat} {Fm : List Sv → M Sv} (F : Fun K x qual st f fd) (S : FnScope N ps (defScope st)) (hn : ps.length = n)
    (G : Rho → M Out) (body : ∀ (cdv : Value) (A : Around) (below : List Env) (s : Shared) (H : Hp) (E : XK), A.guards = some [] → Room k (bx P w K mg base N qual st f cdv A below s H E).A → PSSX (bx P w K mg base N qual st f cdv A below s H E) E (defBody st) G)
    (same : ∀ (ss : List Sv) (μ : Mu) (r : Res Sv), ss.length = n → Wf μ → Fm ss μ = some r → ∃ r', G (ini N.length ss) μ = some r' ∧ Agree μ.length r r') : Gk P w K mg base (L2.CX P w) (k + 1) f fd ps (spM K n Fm) := by
  refine gk_run F S (fun vs H Q E h => h.1.trans hn.symm) fun cdv _ A below s H vs Q E hgd hr ⟨hl, W, μ, ss, r, R, rs, e, q⟩ => ⟨_, body cdv A below s H E hgd hr, ?_⟩
  obtain ⟨r', e', a⟩ := same ss μ r (by rw [← hl, rs.len]) R.wf e
  exact ⟨W, ini N.length ss, μ, r', ⟨R, ini_sl rs⟩, e', agree_ko a q⟩
end
end Pf

namespace Pf
open PySem PySem.Spec PyProof.Rows L2

/-! ### the law's own call, at its one place: no repr is under way there -/
section
variable {P : Program} {w : World} {K : PySem.W.Frag} {mg mb : Str → Option Value} {k : Nat} {fa a : Addr} {fd : FuncData} {x : Str} {sp : Sp} {s₁ : Shared} {vs : List Value} {ns : List Int}
/-- what the end of the whole law says -/
abbrev LawEnd (s₁ : Shared) (r : Result) (s' : Shared) : Prop := r = .ok (.ret (.bool true)) ∧ OldK s₁.heap s'.heap ∧ s'.os = s₁.os ∧ AllBare s'.gens
/-- what is held at the law's entry beside the script: the modules' dict, as it is -/
noncomputable def sysH (K : PySem.W.Frag) (om : Obj) : Hp := fun b => if b = sysModules ∧ K.lookup sysModules = none then some (.frz om (.own 0)) else none
theorem sysH_ne {om : Obj} {b : Addr} (h : b ≠ sysModules) : sysH K om b = none := if_neg fun z => h z.1
theorem sysH_some {om : Obj} {b : Addr} {u : HO} (h : sysH K om b = some u) : b = sysModules ∧ u = .frz om (.own 0) ∧ K.lookup sysModules = none := by
  unfold sysH at h
  split at h
  · next z => exact ⟨z.1, (Option.some.inj h).symm, z.2⟩
  · cases h
theorem sysH_at {om : Obj} (h : K.lookup sysModules = none) : sysH K om sysModules = some (.frz om (.own 0)) := if_pos ⟨rfl, h⟩
theorem sys_ok {H : Hp} {h : Heap} {om : Obj} {es : Array DictEntry} {ep : Nat} (KX : K.In h) (e : h.get? sysModules = some om) (d : om.data = .dict es ep) (hH : H sysModules = sysH K om sysModules) : SmOk K H := by
  cases q : K.lookup sysModules with
  | some o =>
    have := KX _ _ q
    rw [e] at this
    cases this
    exact .inl ⟨_, _, _, q, d⟩
  | none => exact .inr ⟨om, es, ep, by rw [hH, sysH_at q], d⟩
end
/-- the law's promise: a pure reading upon the script gives True -/
def spLaw (Fm : List Sv → M Sv) (most : Nat) (K : PySem.W.Frag) : Sp := spM K 1 Fm
end Pf

namespace Pf
open PySem PySem.Spec PyProof.Rows L2
section
variable {X : Cx} {E : XK} {e a b c iter tg : Expr} {es : List Expr} {Fa Fb Fc : Rho → M Sv} {Fs : Rho → M (List Sv)} {pos p tpos : Pos}
/-- a call of a def of one's own, all arguments written -/
def callF (Fm : List Sv → M Sv) (n : Nat) (Fs : Rho → M (List Sv)) (ρ : Rho) : M Sv := (Fs ρ).bind fun ss => if decide (ss.length = n) = true then Fm ss else M.fail
theorem x_call1 {CX : CXT} {k j : Nat} {f : Addr} {fd : FuncData} {ps : List Str} {x : Str} {n : Nat} {Fm : List Sv → M Sv} (F : Gk X.prog X.w X.K X.mg X.base CX j f fd ps (spM X.K n Fm)) (hgd : X.A.guards = some []) (hr : Room k X.A) (hm : X.mg x = some (.ref f)) (hk : PySem.W.keepIn X.K (.ref f) = true) (hb : Binds X.K fd ps [])
    (hx : Passes CX X E) (ha : PAX X E (e :: es) Fs) (hg : Gl X x := by rfl) (hj : j ≤ k := by decide) (hdb : (x == ("__debug__" : Str)) = false := by decide) (he : starEach (e :: es) X.env = (false, eval e X.env) :: starEach es X.env := by rfl) (hpl : (backTo pos (starEach es X.env)).any (·.1) = false := by rfl) :
    PX X E (.Call (.Name x p) (e :: es) [] pos) (callF Fm n Fs) := by
  have z := x_call (p := p) (pos := pos) (dd := []) F hgd (hr.mono hj) hm hk hb .nil (fun _ => .nil) hx ha hg hdb he hpl
  have eq : (fun ρ => (Fs ρ).bind fun ss => if decide (ss.length + ([] : List PyData).length = n) = true then Fm (ss ++ ([] : List PyData).map Sv.dat) else M.fail) = callF Fm n Fs := by
    funext ρ
    show M.bind (Fs ρ) _ = M.bind (Fs ρ) _
    congr 1
    funext ss
    rw [List.map_nil, List.append_nil]
    rfl
  rw [eq] at z
  exact z
/-! ### zip of two lists or two tuples of data -/
def zipD (ds es : List PyData) : List PyData := List.zipWith (fun d e => .tuple [d, e]) ds es
theorem zip_at {ds es : List PyData} {i : Nat} {x : PyData} (h : (zipD ds es)[i]? = some x) : ∃ d e, ds[i]? = some d ∧ es[i]? = some e ∧ x = .tuple [d, e] := by
  unfold zipD at h
  rw [List.getElem?_zipWith] at h
  cases q : ds[i]? with
  | none =>
    rw [q] at h
    simp at h
  | some d =>
    cases q2 : es[i]? with
    | none =>
      rw [q, q2] at h
      simp at h
    | some e =>
      rw [q, q2] at h
      exact ⟨d, e, rfl, rfl, (Option.some.inj h).symm⟩
theorem pair_new {K : PySem.W.Frag} {W1 : Wd} {H : Hp} {μ : Mu} {T : Addr} {x y : V} {d e : PyData} (R : Rel K W1 H μ) (nT : H T = none) (h1 : Dq K W1.S x d) (h2 : Dq K W1.S y e) :
    ∃ W2, Grow W1 H μ W2 (upd H T (.tup [x, y])) μ ∧ Rel K W2 (upd H T (.tup [x, y])) μ ∧ Dq K W2.S (.ref T) (.tuple [d, e]) := by
  have g : Grow W1 H μ (W1.put T (.tup [x, y])) (upd H T (.tup [x, y])) μ := grow_share R nT
  exact ⟨_, g, R.share nT, .tup (SqT.of upd_same) (.cons (Dq.mono g.same h1) (.cons (Dq.mono g.same h2) .nil))⟩
theorem zip_len {ds es : List PyData} {i : Nat} (h : (zipD ds es).length ≤ i) : ds.length ≤ i ∨ es.length ≤ i := by
  unfold zipD at h
  rw [List.length_zipWith] at h
  omega
end
end Pf

namespace Pf
open PySem PySem.Spec PyProof.Rows L2

/-! ### a body as its own promise -/
def strip (n : Nat) (G : Rho → M Out) (ss : List Sv) : M Sv := fun μ => match G (ini n ss) μ with
  | some (.ok (.rt s) μ') => some (.ok s μ')
  | some (.ok (.nx _) μ') => some (.ok (.dat .none) μ')
  | some (.ex c μ') => some (.ex c μ')
  | _ => none
section
variable {P : Program} {w : World} {K : PySem.W.Frag} {mg : Str → Option Value} {base : Heap} {k : Nat} {f : Addr} {fd : FuncData} {x qual : Str} {st : Stmt} {N ps : List Str}
theorem strip_ko {K : PySem.W.Frag} {E : XK} {W : Wd} {H : Hp} {μ : Mu} {ρ : Rho} {G : Rho → M Out} {n : Nat} {ss : List Sv} {r : Res Sv} {Q : VK} (e : strip n G ss μ = some r) (q : KoV K E W H μ r Q) :
    ∃ r', G (ini n ss) μ = some r' ∧ Ko K E W H μ r' (OutOk K { nx := fun _ H' => Q .non H', rt := Q }) := by
  unfold strip at e
  split at e
  · rename_i s μ' eg
    cases e
    exact ⟨_, eg, q⟩
  · rename_i ρ' μ' eg
    cases e
    exact ⟨_, eg, fun W' H' g R σ _ => q W' H' g R _ .non⟩
  · rename_i c μ' eg
    cases e
    exact ⟨_, eg, q⟩
  · cases e
theorem gk_strip {n : Nat} {l : Nat} (F : Fun K x qual st f fd) (S : FnScope N ps (defScope st)) (hn : ps.length = n) (hl : N.length = l)
    (G : Rho → M Out) (body : ∀ (cdv : Value) (A : Around) (below : List Env) (s : Shared) (H : Hp) (E : XK), A.guards = some [] → Room k (bx P w K mg base N qual st f cdv A below s H E).A → PSSX (bx P w K mg base N qual st f cdv A below s H E) E (defBody st) G) :
    Gk P w K mg base (L2.CX P w) (k + 1) f fd ps (spM K n (strip l G)) := by
  refine gk_run F S (fun vs H Q E h => h.1.trans hn.symm) fun cdv _ A below s H vs Q E hgd hr ⟨hvl, W, μ, ss, r, R, rs, e, q⟩ => ⟨_, body cdv A below s H E hgd hr, ?_⟩
  subst hl
  obtain ⟨r', e', q'⟩ := strip_ko (ρ := []) e q
  exact ⟨W, ini N.length ss, μ, r', ⟨R, ini_sl rs⟩, e', q'⟩
end
theorem strip_rt {n : Nat} {G : Rho → M Out} {ss : List Sv} {μ μ' : Mu} {s : Sv} (h : G (ini n ss) μ = some (.ok (.rt s) μ')) : strip n G ss μ = some (.ok s μ') := by
  unfold strip
  rw [h]

/-! ### running -/
theorem set_at {α : Type} {m : M α} {μ : Mu} : M.bind m M.ret μ = m μ := by
  unfold M.bind
  cases m μ with
  | none => rfl
  | some r => cases r <;> rfl
theorem lcL_map {T : Sv → Rho → M Rho} {Fe : Rho → M Sv} {ρ : Rho} {μ : Mu} (g : PyData → Sv) : ∀ {ds : List PyData}, (∀ d ∈ ds, ∃ ρ1, T (.dat d) ρ μ = some (.ok ρ1 μ) ∧ Fe ρ1 μ = some (.ok (g d) μ)) → lcL T yes Fe ds ρ μ = some (.ok (ds.map g) μ)
  | [], _ => rfl
  | d :: ds, h => by
    obtain ⟨ρ1, e1, e2⟩ := h d List.mem_cons_self
    have ih := lcL_map g (ds := ds) (T := T) (Fe := Fe) (ρ := ρ) (μ := μ) fun d hd => h d (List.mem_cons_of_mem _ hd)
    simp only [lcL, M.bind, noEx, e1, yes, M.ret, e2, if_true, ih, List.map_cons]

/-! ### the deck -/
abbrev svI (i : Int) : Sv := .dat (.int i)
def deckMu (cs : List Int) (n : Int) (rest : Mu) : Mu := .lst (cs.map svI) :: .lst [.ref 0, svI n] :: rest
structure Deck (n : Int) (rest μ : Mu) : Prop where
  ex : ∃ cs : List Int, cs.length ≤ 63 ∧ (∀ c ∈ cs, 0 ≤ c) ∧ μ = deckMu cs n rest
end Pf

namespace Pf
open PySem PySem.Spec PyProof.Rows L2
/-! ### evaluation by simp -/
theorem atI_0 {α : Type} (x : α) (r : List α) : atI (x :: r) 0 = some x := by
  have := atI_nat (xs := x :: r) (j := 0) (v := x) rfl
  exact this
theorem atI_lt {α : Type} {xs : List α} {i : Int} (h0 : 0 ≤ i) (h1 : i < xs.length) : ∃ x, xs[i.toNat]? = some x ∧ atI xs i = some x := by
  have hi : i.toNat < xs.length := by omega
  refine ⟨xs[i.toNat], List.getElem?_eq_getElem hi, ?_⟩
  have := atI_nat (List.getElem?_eq_getElem hi)
  rw [Int.toNat_of_nonneg h0] at this
  exact this
theorem ixN_lt {n : Nat} {i : Int} (h0 : 0 ≤ i) (h1 : i < n) : ixN n i = some i.toNat := by
  unfold ixN
  rw [if_pos h0, if_pos h1]
theorem ret_at {α : Type} (a : α) (μ : Mu) : M.ret a μ = some (.ok a μ) := rfl
/-- a statement of a row: this ends so -/
theorem seq_at {G G' : Rho → M Out} {ρ ρ' : Rho} {μ μ' : Mu} (h : G ρ μ = some (.ok (.nx ρ') μ')) : gSeq G G' ρ μ = G' ρ' μ' := by
  unfold gSeq M.bind
  rw [h]
theorem seq_rt {G G' : Rho → M Out} {ρ : Rho} {μ μ' : Mu} {s : Sv} (h : G ρ μ = some (.ok (.rt s) μ')) : gSeq G G' ρ μ = some (.ok (.rt s) μ') := by
  unfold gSeq M.bind
  rw [h]
  rfl
theorem if_t {F : Rho → M Bool} {G G' : Rho → M Out} {ρ : Rho} {μ μ' : Mu} (h : F ρ μ = some (.ok true μ')) : gIf F G G' ρ μ = G ρ μ' := by
  unfold gIf M.bind
  rw [h]
  rfl
theorem if_f {F : Rho → M Bool} {G G' : Rho → M Out} {ρ : Rho} {μ μ' : Mu} (h : F ρ μ = some (.ok false μ')) : gIf F G G' ρ μ = G' ρ μ' := by
  unfold gIf M.bind
  rw [h]
  rfl
theorem bin_at {op : Sv → Sv → M Sv} {Fa Fb : Rho → M Sv} {ρ : Rho} {μ μ1 μ2 : Mu} {a b : Sv} (h1 : Fa ρ μ = some (.ok a μ1)) (h2 : Fb ρ μ1 = some (.ok b μ2)) : bin op Fa Fb ρ μ = op a b μ2 := by
  unfold bin
  rw [bind_ok h1, bind_ok h2]
theorem gset_at {i : Nat} {Fa : Rho → M Sv} {ρ : Rho} {μ μ' : Mu} {s : Sv} (h : Fa ρ μ = some (.ok s μ')) : gSet i Fa ρ μ = some (.ok (.nx (ρ.set i (some s))) μ') := by
  unfold gSet
  rw [bind_ok h]
  rfl
theorem ret_gives {Fa : Rho → M Sv} {ρ : Rho} {μ μ' : Mu} {s : Sv} (h : Fa ρ μ = some (.ok s μ')) : gRet Fa ρ μ = some (.ok (.rt s) μ') := by
  unfold gRet
  rw [bind_ok h]
  rfl
/-! ### the draws -/
end Pf

namespace Pf
open PySem PySem.Spec PyProof.Rows L2
/-! ### trees -/
def rowD (r : Int × Int) : PyData := .tuple [.int r.1, .int r.2]
def treeD (rows : List (Int × Int)) : PyData := .tuple (rows.map rowD)
def TreeOk (rows : List (Int × Int)) : Prop := ∀ (k : Nat) (r : Int × Int), rows[k]? = some r → 0 ≤ r.1 ∧ r.1 ≤ k ∧ 1 ≤ r.2 ∧ r.2 ≤ 1000000
theorem TreeOk.nil : TreeOk [] := fun k r h => by simp at h
theorem TreeOk.snoc {rows : List (Int × Int)} {p l : Int} (h : TreeOk rows) (a : 0 ≤ p) (b : p ≤ rows.length) (c : 1 ≤ l) (d : l ≤ 1000000) : TreeOk (rows ++ [(p, l)]) := fun k r e => by
  by_cases hk : k < rows.length
  · rw [List.getElem?_append_left hk] at e
    exact h k r e
  · have hk2 : k < (rows ++ [(p, l)]).length := (List.getElem?_eq_some_iff.mp e).1
    rw [List.length_append, List.length_singleton] at hk2
    have : k = rows.length := by omega
    subst this
    rw [List.getElem?_append_right (Nat.le_refl _), Nat.sub_self] at e
    cases e
    exact ⟨a, b, c, d⟩
theorem two {i : Int} (h0 : 0 ≤ i) (h1 : i < 2) : i = 0 ∨ i = 1 := by omega
end Pf

namespace Pf
open PySem PySem.Spec PyProof.Rows L2
/-! ### data whose repr is short -/
mutual
def wt : PyData → Nat
  | .none => 4
  | .bool _ => 5
  | .int _ => 44
  | .str x => (reprText x).length
  | .list ds => wts ds + 2
  | .tuple ds => wts ds + 3
  | .dict ds => wtk ds + 2
def wts : List PyData → Nat
  | [] => 0
  | d :: ds => wt d + 2 + wts ds
def wtk : List (PyData × PyData) → Nat
  | [] => 0
  | (c, d) :: ds => wt c + wt d + 4 + wtk ds
end
mutual
def lfs : PyData → Bool
  | .int i => decide (i.natAbs < 10 ^ 42)
  | .list ds => lfss ds
  | .tuple ds => lfss ds
  | .dict ds => lfsk ds
  | _ => true
def lfss : List PyData → Bool
  | [] => true
  | d :: ds => lfs d && lfss ds
def lfsk : List (PyData × PyData) → Bool
  | [] => true
  | (c, d) :: ds => lfs c && lfs d && lfsk ds
end
theorem list_text (ts : List Str) : (listText ts).length ≤ piled ts + 2 := by
  unfold listText
  rw [strLen_append]
  have e1 : ((("]" : String) : Str)).length = 1 := rfl
  rw [e1]
  cases ts with
  | nil =>
    show (("[" : String) : Str).length + 1 ≤ _
    have : ((("[" : String) : Str)).length = 1 := rfl
    omega
  | cons t r =>
    have h := textFrom_length_pos r 1 (("[" : Str) ++ (if (0 : Nat) > 0 then ", " else "" : String) ++ t) (Nat.succ_pos 0)
    have e : ((("[" : Str) ++ (if (0 : Nat) > 0 then ", " else "" : String) ++ t)).length = 1 + t.length := by
      rw [strLen_append, strLen_append]
      rfl
    have hy : (textFrom 0 "[" (t :: r)).length = (textFrom 1 (("[" : Str) ++ (if (0 : Nat) > 0 then ", " else "" : String) ++ t) r).length := rfl
    rw [hy, h, e, piled_cons]
    omega
theorem dict_text (ts : List Str) : (dictText ts).length ≤ piled ts + 2 := by
  unfold dictText
  rw [strLen_append, strLen_append]
  have e1 : ((("}" : String) : Str)).length = 1 := rfl
  have e2 : ((("{" : String) : Str)).length = 1 := rfl
  rw [e1, e2]
  by_cases h : ts = []
  · subst h
    have : (Str.join ", " []).length = 0 := by decide +kernel
    rw [this]
    omega
  · have := join_length_add ts h
    omega
theorem colon_len (a b : Str) : (a ++ ": " ++ b).length = a.length + 2 + b.length := by
  rw [strLen_append, strLen_append]
  rfl
mutual
theorem shown_le : ∀ d : PyData, lfs d = true → d.shown.length ≤ wt d
  | .none, _ => by
    simp only [PyData.shown, wt]
    decide +kernel
  | .bool b, _ => by
    simp only [PyData.shown, wt]
    cases b <;> decide +kernel
  | .int i, h => by
    have h' : i.natAbs < 10 ^ 42 := of_decide_eq_true (by simpa only [lfs] using h)
    simp only [PyData.shown, wt]
    have := int_text_length_le10 (a := i) (k := 42) (by decide) h'
    have e : (Str.ofString (toString i)).length = (toString i).length := by
      exact PySem.ofString_length _
    show (Str.ofString (toString i)).length ≤ 44
    omega
  | .str x, _ => by
    simp only [PyData.shown, wt]
    exact Nat.le_refl _
  | .list ds, h => by
    have ih := shown_les ds (by simpa only [lfs] using h)
    simp only [PyData.shown, wt]
    have := list_text (PyData.shownAll ds)
    omega
  | .tuple ds, h => by
    have ih := shown_les ds (by simpa only [lfs] using h)
    simp only [PyData.shown, wt]
    have := fmt_text (PyData.shownAll ds)
    omega
  | .dict ds, h => by
    have ih := shown_lek ds (by simpa only [lfs] using h)
    simp only [PyData.shown, wt]
    have := dict_text (PyData.shownKv ds)
    omega
theorem shown_les : ∀ ds : List PyData, lfss ds = true → piled (PyData.shownAll ds) ≤ wts ds
  | [], _ => by
    simp only [PyData.shownAll, wts]
    exact Nat.le_refl _
  | d :: ds, h => by
    have h' : lfs d = true ∧ lfss ds = true := by simpa only [lfss, Bool.and_eq_true] using h
    have h1 := shown_le d h'.1
    have h2 := shown_les ds h'.2
    simp only [PyData.shownAll, wts, piled_cons]
    omega
theorem shown_lek : ∀ ds : List (PyData × PyData), lfsk ds = true → piled (PyData.shownKv ds) ≤ wtk ds
  | [], _ => by
    simp only [PyData.shownKv, wtk]
    exact Nat.le_refl _
  | (c, d) :: ds, h => by
    have h' : (lfs c = true ∧ lfs d = true) ∧ lfsk ds = true := by simpa only [lfsk, Bool.and_eq_true] using h
    have h0 := shown_le c h'.1.1
    have h1 := shown_le d h'.1.2
    have h2 := shown_lek ds h'.2
    simp only [PyData.shownKv, wtk, piled_cons, colon_len]
    omega
end
mutual
theorem showable_of : ∀ d : PyData, lfs d = true → d.showable = true
  | .none, _ => by simp only [PyData.showable]
  | .bool b, _ => by simp only [PyData.showable]
  | .str b, _ => by simp only [PyData.showable]
  | .int i, h => by
    have h' : i.natAbs < 10 ^ 42 := of_decide_eq_true (by simpa only [lfs] using h)
    simp only [PyData.showable]
    by_cases hz : i.natAbs = 0
    · rw [hz]
      decide +kernel
    · have : i.natAbs.log2 < 140 := (Nat.log2_lt hz).mpr (Nat.lt_of_lt_of_le h' (by decide +kernel))
      exact decide_eq_true (by omega)
  | .list ds, h => by
    simp only [PyData.showable]
    exact showables_of ds (by simpa only [lfs] using h)
  | .tuple ds, h => by
    simp only [PyData.showable]
    exact showables_of ds (by simpa only [lfs] using h)
  | .dict ds, h => by
    simp only [PyData.showable]
    exact showablek_of ds (by simpa only [lfs] using h)
theorem showables_of : ∀ ds : List PyData, lfss ds = true → PyData.showableAll ds = true
  | [], _ => by simp only [PyData.showableAll]
  | d :: ds, h => by
    have h' : lfs d = true ∧ lfss ds = true := by simpa only [lfss, Bool.and_eq_true] using h
    simp only [PyData.showableAll, showable_of d h'.1, showables_of ds h'.2, Bool.and_self]
theorem showablek_of : ∀ ds : List (PyData × PyData), lfsk ds = true → PyData.showableKv ds = true
  | [], _ => by simp only [PyData.showableKv]
  | (c, d) :: ds, h => by
    have h' : (lfs c = true ∧ lfs d = true) ∧ lfsk ds = true := by simpa only [lfsk, Bool.and_eq_true] using h
    simp only [PyData.showableKv, showable_of c h'.1.1, showable_of d h'.1.2, showablek_of ds h'.2, Bool.and_self]
end
/-- all that repr wants -/
structure Nice (d : PyData) (n : Nat) : Prop where
  lf : lfs d = true
  nd : (!d.hasDict || bare d) = true
  dp : d.depth ≤ 10
  sz : wt d ≤ n
theorem Nice.ok {d : PyData} {n : Nat} (h : Nice d n) (hn : n ≤ 1000000) : okShow d = true := by
  have h1 := shown_le d h.lf
  have h2 := h.sz
  have h3 := h.dp
  unfold okShow
  rw [showable_of d h.lf, decide_eq_true (show d.depth ≤ 60 by omega), show szOk d.shown.length = true from decide_eq_true (by omega)]
  rfl
theorem Nice.mono {d : PyData} {n m : Nat} (h : Nice d n) (hn : n ≤ m) : Nice d m := ⟨h.lf, h.nd, h.dp, Nat.le_trans h.sz hn⟩
/-! ### trees are nice -/
theorem wts_le {n : Nat} : ∀ {ds : List PyData}, (∀ d ∈ ds, wt d ≤ n) → wts ds ≤ (n + 2) * ds.length
  | [], _ => Nat.zero_le _
  | d :: ds, h => by
    have h1 := h d List.mem_cons_self
    have h2 := wts_le (ds := ds) fun d hd => h d (List.mem_cons_of_mem _ hd)
    simp only [wts, List.length_cons, Nat.mul_succ]
    omega
theorem lfss_of : ∀ {ds : List PyData}, (∀ d ∈ ds, lfs d = true) → lfss ds = true
  | [], _ => by simp only [lfss]
  | d :: ds, h => by
    simp only [lfss, h d List.mem_cons_self, lfss_of (ds := ds) fun d hd => h d (List.mem_cons_of_mem _ hd), Bool.and_self]
theorem nodict_of : ∀ {ds : List PyData}, (∀ d ∈ ds, d.hasDict = false) → PyData.hasDictAll ds = false
  | [], _ => by simp only [PyData.hasDictAll]
  | d :: ds, h => by
    simp only [PyData.hasDictAll, h d List.mem_cons_self, nodict_of (ds := ds) fun d hd => h d (List.mem_cons_of_mem _ hd), Bool.or_self]
theorem depth_of {n : Nat} : ∀ {ds : List PyData}, (∀ d ∈ ds, d.depth ≤ n) → PyData.depthAll ds ≤ n
  | [], _ => by simp only [PyData.depthAll]; exact Nat.zero_le _
  | d :: ds, h => by
    have h1 := h d List.mem_cons_self
    have h2 := depth_of (ds := ds) fun d hd => h d (List.mem_cons_of_mem _ hd)
    simp only [PyData.depthAll]
    omega
/-- no dict within: data by parts -/
structure Fine (d : PyData) (n k : Nat) : Prop where
  lf : lfs d = true
  nd : d.hasDict = false
  dp : d.depth ≤ k
  sz : wt d ≤ n
theorem Fine.nice {d : PyData} {n k : Nat} (h : Fine d n k) (hk : k ≤ 10) : Nice d n := ⟨h.lf, by rw [h.nd]; rfl, Nat.le_trans h.dp hk, h.sz⟩
theorem Fine.up {d : PyData} {n k n' k' : Nat} (h : Fine d n k) (hn : n ≤ n') (hk : k ≤ k') : Fine d n' k' := ⟨h.lf, h.nd, Nat.le_trans h.dp hk, Nat.le_trans h.sz hn⟩
theorem Fine.int {i : Int} (h : i.natAbs < 10 ^ 42) : Fine (.int i) 44 0 := ⟨by simp only [lfs]; exact decide_eq_true h, by simp only [PyData.hasDict], by simp only [PyData.depth]; exact Nat.le_refl _, by simp only [wt]; exact Nat.le_refl _⟩
theorem Fine.list {ds : List PyData} {n k : Nat} (h : ∀ d ∈ ds, Fine d n k) : Fine (.list ds) ((n + 2) * ds.length + 2) (k + 1) :=
  ⟨by simp only [lfs]; exact lfss_of fun d hd => (h d hd).lf, by simp only [PyData.hasDict]; exact nodict_of fun d hd => (h d hd).nd, by simp only [PyData.depth]; exact Nat.succ_le_succ (depth_of fun d hd => (h d hd).dp),
    by simp only [wt]; exact Nat.add_le_add_right (wts_le fun d hd => (h d hd).sz) 2⟩
theorem Fine.tuple {ds : List PyData} {n k : Nat} (h : ∀ d ∈ ds, Fine d n k) : Fine (.tuple ds) ((n + 2) * ds.length + 3) (k + 1) :=
  ⟨by simp only [lfs]; exact lfss_of fun d hd => (h d hd).lf, by simp only [PyData.hasDict]; exact nodict_of fun d hd => (h d hd).nd, by simp only [PyData.depth]; exact Nat.succ_le_succ (depth_of fun d hd => (h d hd).dp),
    by simp only [wt]; exact Nat.add_le_add_right (wts_le fun d hd => (h d hd).sz) 3⟩
theorem TreeOk.at_ {rows : List (Int × Int)} (h : TreeOk rows) {r : Int × Int} (hr : r ∈ rows) : 0 ≤ r.1 ∧ r.1 ≤ rows.length ∧ 1 ≤ r.2 ∧ r.2 ≤ 1000000 := by
  obtain ⟨k, e⟩ := List.getElem?_of_mem hr
  have := h k r e
  have hk := (List.getElem?_eq_some_iff.mp e).1
  omega
theorem tree_fine {rows : List (Int × Int)} (h : TreeOk rows) (hl : rows.length ≤ 100) : Fine (treeD rows) 10000 2 := by
  have hr : ∀ d ∈ rows.map rowD, Fine d 95 1 := fun d hd => by
    obtain ⟨r, hr, rfl⟩ := List.mem_map.mp hd
    have b := h.at_ hr
    refine Fine.tuple (n := 44) (k := 0) fun d hd => ?_
    rcases List.mem_cons.mp hd with rfl | hd
    · exact .int (Nat.lt_trans (show r.1.natAbs < 1000 by omega) (by decide +kernel))
    · rcases List.mem_cons.mp hd with rfl | hd
      · exact .int (Nat.lt_trans (show r.2.natAbs < 10000000 by omega) (by decide +kernel))
      · cases hd
  refine (Fine.tuple hr).up ?_ (Nat.le_refl _)
  rw [List.length_map]
  omega
end Pf

namespace Pf
open PySem PySem.Spec PyProof.Rows L2
/-! ### pure promises -/
open Classical in
section
variable {α : Type} {enc : α → List Sv} {ok : α → Prop} {out : α → PyData}
end
/-! ### loops by an invariant -/
theorem fromTo_at {lo : Int} {n i : Nat} {d : PyData} (h : (fromTo lo n)[i]? = some d) : i < n ∧ d = .int (lo + (i : Nat)) := by
  unfold fromTo at h
  have hi : i < n := by
    have := (List.getElem?_eq_some_iff.mp h).1
    simpa using this
  rw [List.getElem?_map, List.getElem?_range hi] at h
  exact ⟨hi, (Option.some.inj h).symm⟩
theorem big62_small {i : Int} (h0 : -1000000000 ≤ i) (h1 : i ≤ 1000000000) : big62 i = true := by
  unfold big62
  rw [decide_eq_true (show -(2 ^ 62) ≤ i by omega), decide_eq_true (show i < 2 ^ 62 by omega)]
  rfl
/-! ### two tagged lists behind the rest -/
section
variable {μ : Mu} {x y z : MObj}
theorem g0 : (μ ++ [x, y])[μ.length]? = some x := by
  rw [List.getElem?_append_right (Nat.le_refl _), Nat.sub_self]
  rfl
theorem g1 : (μ ++ [x, y])[μ.length + 1]? = some y := by
  rw [List.getElem?_append_right (Nat.le_succ _), show μ.length.succ - μ.length = 1 by omega]
  rfl
theorem s0 : (μ ++ [x, y]).set μ.length z = μ ++ [z, y] := by
  rw [List.set_append_right _ _ (Nat.le_refl _), Nat.sub_self]
  rfl
theorem s1 : (μ ++ [x, y]).set (μ.length + 1) z = μ ++ [x, z] := by
  rw [List.set_append_right _ _ (Nat.le_succ _), show μ.length.succ - μ.length = 1 by omega]
  rfl
theorem a0 : (μ ++ [x])[μ.length]? = some x := by
  rw [List.getElem?_append_right (Nat.le_refl _), Nat.sub_self]
  rfl
theorem al : (μ ++ [x]).length = μ.length + 1 := by simp
theorem b0 : (μ ++ [x]).set μ.length z = μ ++ [z] := by
  rw [List.set_append_right _ _ (Nat.le_refl _), Nat.sub_self]
  rfl
end
/-! ### marks, ways, distances -/
def mkD (k : Nat) : PyData := .int (k : Int)
def par (rows : List (Int × Int)) (m : Nat) : Nat := ((rows[m - 1]?).getD (0, 0)).1.toNat
def lnR (rows : List (Int × Int)) (m : Nat) : Int := ((rows[m - 1]?).getD (0, 0)).2
theorem row_of {rows : List (Int × Int)} (ok : TreeOk rows) {m : Nat} (h0 : 0 < m) (h1 : m ≤ rows.length) : ∃ r, rows[m - 1]? = some r ∧ r.1 = (par rows m : Nat) ∧ r.2 = lnR rows m ∧ par rows m < m ∧ 1 ≤ lnR rows m ∧ lnR rows m ≤ 1000000 := by
  have hm : m - 1 < rows.length := by omega
  have e : rows[m - 1]? = some rows[m - 1] := List.getElem?_eq_getElem hm
  have b := ok _ _ e
  refine ⟨_, e, ?_, ?_, ?_, ?_, ?_⟩
  · unfold par
    rw [e]
    show _ = ((rows[m - 1].1.toNat : Nat) : Int)
    omega
  · unfold lnR
    rw [e]
    rfl
  · unfold par
    rw [e]
    show rows[m - 1].1.toNat < m
    omega
  · unfold lnR
    rw [e]
    exact b.2.2.1
  · unfold lnR
    rw [e]
    exact b.2.2.2
def wayF (rows : List (Int × Int)) : Nat → Nat → Nat → List Nat
  | 0, a, _ => [a]
  | n + 1, a, b => if a = b then [a] else if b < a then a :: wayF rows n (par rows a) b else wayF rows n a (par rows b) ++ [b]
def distF (rows : List (Int × Int)) : Nat → Nat → Nat → Int
  | 0, _, _ => 0
  | n + 1, a, b => if a = b then 0 else if b < a then lnR rows a + distF rows n (par rows a) b else distF rows n a (par rows b) + lnR rows b
def way (rows : List (Int × Int)) (a b : Nat) : List Nat := wayF rows (a + b + 1) a b
def dist (rows : List (Int × Int)) (a b : Nat) : Int := distF rows (a + b + 1) a b
section
variable {rows : List (Int × Int)} (ok : TreeOk rows)
include ok
theorem distF_dist : ∀ (n a b : Nat), a + b < n → a ≤ rows.length → b ≤ rows.length → distF rows n a b = dist rows a b := by
  have key : ∀ (n m a b : Nat), a + b < n → a + b < m → a ≤ rows.length → b ≤ rows.length → distF rows n a b = distF rows m a b := by
    intro n
    induction n with
    | zero => intro m a b h; omega
    | succ n ih =>
      intro m a b h h2 ha hb
      cases m with
      | zero => omega
      | succ m =>
        unfold distF
        by_cases e : a = b
        · rw [if_pos e, if_pos e]
        · rw [if_neg e, if_neg e]
          by_cases l : b < a
          · rw [if_pos l, if_pos l]
            obtain ⟨r, _, _, _, hp, _⟩ := row_of ok (m := a) (by omega) ha
            rw [ih m (par rows a) b (by omega) (by omega) (by omega) hb]
          · rw [if_neg l, if_neg l]
            obtain ⟨r, _, _, _, hp, _⟩ := row_of ok (m := b) (by omega) hb
            rw [ih m a (par rows b) (by omega) (by omega) ha (by omega)]
  exact fun n a b h ha hb => key n _ a b h (Nat.lt_succ_self _) ha hb
theorem dist_eq {a : Nat} : dist rows a a = 0 := by
  unfold dist distF
  rw [if_pos rfl]
theorem dist_gt {a b : Nat} (h : b < a) (ha : a ≤ rows.length) : dist rows a b = lnR rows a + dist rows (par rows a) b := by
  obtain ⟨r, _, _, _, hp, _⟩ := row_of ok (m := a) (by omega) ha
  rw [← distF_dist ok (a + b) (par rows a) b (by omega) (by omega) (by omega)]
  unfold dist
  rw [distF, if_neg (by omega), if_pos h]
theorem dist_lt {a b : Nat} (h : a < b) (hb : b ≤ rows.length) : dist rows a b = dist rows a (par rows b) + lnR rows b := by
  obtain ⟨r, _, _, _, hp, _⟩ := row_of ok (m := b) (by omega) hb
  rw [← distF_dist ok (a + b) a (par rows b) (by omega) (by omega) (by omega)]
  unfold dist
  rw [distF, if_neg (by omega), if_neg (by omega)]
theorem dist_comm : ∀ (n a b : Nat), a + b < n → a ≤ rows.length → b ≤ rows.length → dist rows a b = dist rows b a := by
  intro n
  induction n with
  | zero => intro a b h; omega
  | succ n ih =>
    intro a b h ha hb
    rcases Nat.lt_trichotomy a b with l | l | l
    · obtain ⟨r, _, _, _, hp, _⟩ := row_of ok (m := b) (by omega) hb
      rw [dist_lt ok l hb, dist_gt ok l hb, ih a (par rows b) (by omega) ha (by omega), Int.add_comm]
    · rw [l]
    · obtain ⟨r, _, _, _, hp, _⟩ := row_of ok (m := a) (by omega) ha
      rw [dist_lt ok l ha, dist_gt ok l ha, ih (par rows a) b (by omega) (by omega) hb, Int.add_comm]
theorem dist_bound : ∀ (n a b : Nat), a + b < n → a ≤ rows.length → b ≤ rows.length → 0 ≤ dist rows a b ∧ dist rows a b ≤ 1000000 * (a + b) := by
  intro n
  induction n with
  | zero => intro a b h; omega
  | succ n ih =>
    intro a b h ha hb
    rcases Nat.lt_trichotomy a b with l | l | l
    · obtain ⟨r, _, _, _, hp, l1, l2⟩ := row_of ok (m := b) (by omega) hb
      have := ih a (par rows b) (by omega) ha (by omega)
      rw [dist_lt ok l hb]
      omega
    · rw [l, dist_eq ok]
      omega
    · obtain ⟨r, _, _, _, hp, l1, l2⟩ := row_of ok (m := a) (by omega) ha
      have := ih (par rows a) b (by omega) (by omega) hb
      rw [dist_gt ok l ha]
      omega
end
/-! ### comprehensions over data -/
theorem mkl_dat (ds : List PyData) (μ : Mu) : mkl false (ds.map Sv.dat) μ = some (.ok (.dat (.list ds)) μ) := by
  simp only [mkl, dats_map, Option.map]
theorem atI_map {α β : Type} {xs : List α} {f : α → β} {i : Int} {x : α} (h : atI xs i = some x) : atI (xs.map f) i = some (f x) := by
  unfold atI at h ⊢
  rw [List.length_map]
  cases q : ixN xs.length i with
  | none =>
    rw [q] at h
    cases h
  | some j =>
    rw [q] at h
    show (xs.map f)[j]? = _
    have h' : xs[j]? = some x := h
    rw [List.getElem?_map, h']
    rfl
theorem atI_range {α : Type} {n k : Nat} (f : Nat → α) (h : k < n) : atI ((List.range n).map f) (k : Int) = some (f k) := by
  have : ((List.range n).map f)[k]? = some (f k) := by
    rw [List.getElem?_map, List.getElem?_range h]
    rfl
  exact atI_nat this
/-! ### pairs on a way -/
def pairs : List Nat → List (Nat × Nat)
  | a :: b :: r => (a, b) :: pairs (b :: r)
  | _ => []
theorem lix_at {xs : List PyData} {i : Int} {d : PyData} (h : atI xs i = some d) (μ : Mu) : pIx (.dat (.list xs)) (svI i) μ = some (.ok (.dat d) μ) := by
  have e : lsOf (.dat (.list xs)) μ = some (.ok (xs.map Sv.dat) μ) := rfl
  have u : pIx (.dat (.list xs)) (svI i) = (lsOf (.dat (.list xs))).bind fun zs => orFail (atI zs i) := rfl
  rw [u, bind_ok e, show atI (xs.map Sv.dat) i = some (Sv.dat d) from atI_map h]
  rfl
theorem call1_at {Fm : List Sv → M Sv} {F : Rho → M Sv} {ρ : Rho} {μ μ1 : Mu} {a : Sv} (h : F ρ μ = some (.ok a μ1)) : callF Fm 1 (argC F argN) ρ μ = Fm [a] μ1 := by
  unfold callF argC argN
  simp only [M.bind, ret_at, h]
  rfl
end Pf

namespace Pf
open PySem PySem.Spec PyProof.Rows L2 HT
/-! ### t[::-1] of a tuple -/
section
variable {prog : Program} {w : World} {A : Around} {E : Value → Shared → Prop} {s : Shared}
end
section
variable {X : Cx} {E : XK} {a b c e : Expr} {Fa Fb Fc : Rho → M Sv} {pos p : Pos}
/-! ### int(a bool) -/
def bInt (ss : List Sv) : M Sv := match ss with
  | [.dat (.bool b)] => M.ret (.dat (.int (if b = true then 1 else 0)))
  | _ => M.fail
theorem b_int : CallR X (.type "int") (rC X.K E bInt) := by
  intro pins s σ H xs us Q I rv ⟨W, μ, ss, r, R, rs, e, q⟩
  unfold bInt at e
  split at e
  · cases e
    obtain ⟨x, rfl, h⟩ := rels1 rs
    obtain ⟨u, rfl, rx⟩ := vals1 rv
    cases h
    cases (show u = Value.bool _ from rx)
    exact call_int_bool ⟨.int _, H, I.tok _, ⟨_, rfl⟩, q _ _ (Grow.refl _ _ _) R _ (.int _)⟩
  · cases e
/-! ### dicts -/
/-! ### enumerate(a tuple) -/
def Itet (K : PySem.W.Frag) (a : Addr) : It :=
  ⟨fun i H => ∃ (xs : List V) (x : V), SqT K H a xs ∧ xs[i]? = some x,
    fun i H v H' => ∃ T x, v = .ref T ∧ H T = none ∧ H' = upd H T (.tup [.int (i : Nat), x]) ∧ ∀ ys, SqT K H a ys → ys[i]? = some x,
    fun i H => ∃ ys : List V, SqT K H a ys ∧ ys.length ≤ i⟩
theorem turn_enumT {P : Program} {w : World} {K : PySem.W.Frag} {elts : List Expr} {kk : Nat} {tpos : Pos} (a e it : Addr) (n1 : e ≠ it) (n2 : a ≠ it) (n3 : e ≠ a) :
    Turn P w K (.Tuple elts kk tpos) (Itet K a) [e, it] e (fun i h => (∃ old, IsEnum h e it ((i : Nat) : Int) old) ∧ h.IsTupleIter it a i) where
  mem := by simp
  obj := fun i h ⟨⟨old, he⟩, ⟨o, ho, hc, hd⟩⟩ b hb => by
    rcases List.mem_cons.mp hb with z | z
    · rw [z]
      exact ⟨_, he, fun v q => nomatch q⟩
    · rw [List.mem_singleton.mp z]
      exact ⟨o, ho, fun v q => by rw [hd] at q; cases q⟩
  keep := fun i h h' ⟨⟨old, he⟩, hi⟩ k => ⟨⟨old, k e (by simp) _ he⟩, hi.at fun o q => k it (by simp) o q⟩
  item := by
    intro X hP hw hK hc i pins s σ H E I hf ⟨⟨old, he⟩, hit⟩ ⟨xs, x, hq, hx⟩
    subst hP hw hK
    obtain ⟨its, rv, p, hz⟩ := I.tuple hq
    obtain ⟨u, hu, ru⟩ := rv.get hx
    have hel : e < s.heap.objs.size := Heap.lt_size he
    have hil : it < s.heap.objs.size := let ⟨_, q, _⟩ := hit; Heap.lt_size q
    have hh : X.A.in1.handled = none := I.ok.hd hc
    have D := Draws.tuple (prog := X.prog) (w := X.w) (A := X.A.in1) hh it a n2 its.toArray
    have hi : i < its.toArray.size := by
      rw [List.size_toArray]
      exact (List.getElem?_eq_some_iff.mp hu).1
    refine wpAny_pyNext_enum_itemD D he ⟨hit, p⟩ hi n1 (by simp [n1, n3]) fun y h' tk hy ho ⟨hit', _⟩ hT hsz hk => ?_
    have ey : y = u := by
      have z : its.toArray[i]? = some u := by simpa using hu
      exact Option.some.inj (hy.symm.trans z)
    subst ey
    refine ⟨_, rfl, wpAny_letOwnedTupleGo_enum (s := { s with heap := h', toks := tk + 1 }) ho fun h'' he' sb => ?_⟩
    have hT2 : h''.get? s.heap.objs.size = some { cls := .type "tuple", data := .seq #[.int i tk, y] } := (sb.2 _ (Nat.ne_of_gt hel)).trans hT
    have new : ObjOk X.prog X.w (upd H s.heap.objs.size (.tup [.int (i : Nat), x])) h'' s.heap.objs.size (.tup [.int (i : Nat), x]) := by
      refine ⟨?_, [.int i tk, y], .cons ⟨_, rfl⟩ (.cons ru .nil), ⟨_, hT2, rfl, _, rfl⟩⟩
      show 2 ≤ sizeLine
      decide
    have I1 : Inv X pins σ (upd H s.heap.objs.size (.tup [.int (i : Nat), x])) { s with heap := h'', toks := tk + 1 } := by
      refine I.turnedNew (ch := [e, it]) (fun b ob hb q => ?_) hf (Nat.le_refl _) new
      have b1 : b ≠ e := fun z => hb (by simp [z])
      have b2 : b ≠ it := fun z => hb (by simp [z])
      exact (sb.2 b b1).trans (hk b ob b1 b2 q)
    refine ⟨.ref s.heap.objs.size, _, I1, rfl, ⟨_, x, rfl, I.hok.fresh (Nat.le_refl _), rfl, fun ys hy => by rw [I.tuple_inj hy hq]; exact hx⟩, ⟨⟨y, ?_⟩, hit'.at fun o q => (sb.2 it (Ne.symm n1)).trans q⟩, fun b hb => ?_⟩
    · rw [show ((i + 1 : Nat) : Int) = (i : Int) + 1 from by omega]
      exact he'
    · have hb' : b < s.heap.objs.size := by
        rcases List.mem_cons.mp hb with z | z
        · rw [z]
          exact hel
        · rw [List.mem_singleton.mp z]
          exact hil
      rw [upd_ne (Nat.ne_of_lt hb')]
      exact (hf b hb).1
  done := by
    intro X hP hw hK hc i pins s σ H E I hf ⟨⟨old, he⟩, hit⟩ ⟨xs, hq, hx⟩
    subst hP hw hK
    obtain ⟨its, rv, p, hz⟩ := I.tuple hq
    obtain ⟨f0, f1, f2, f3, f4, f5⟩ := hf it (by simp)
    have hl := rv.length
    have hT : s.TypeIs (.ref e) "enumerate" := ⟨_, he, rfl⟩
    unfold pyNext
    refine wpAny_bind (wpAny_attempt (wpAny_callSpecial?_slot (name := Str.ofString "__next__") hT F.slot_enumerate_next (wpAny_call_entry F.slot_enumerate_next hT F.entry_enumerate_next ?_ (F.args_enumerate_next_1 _))))
    show wpAny _ _ (field (.ref e) 2 >>= _) _ _ _
    refine wpAny_bind (wpAny_field he rfl (x := .ref it) rfl (wpAny_bind (wpAny_nextOf_tuple_end (I.ok.hd hc) hit p (by simp; omega) fun h' y eb ⟨o, ho, hcl⟩ => ?_)))
    exact wpAny_bind (wpAny_isInstance (T := "StopIteration") (b := true) ⟨o, ho, hcl⟩ isSubtype_stop (wpAny_pure ⟨rfl, I.turned (t' := s.toks) (fun b o hb q => eb b o hb q) f0 f1 f3 f4 f5⟩))
  self := fun A i s Q E ⟨⟨_, he⟩, _⟩ h => wpAny_pyIter_enum he h
end
set_option maxHeartbeats 1000000 in
theorem meets_enumT (t : Addr) (items : Array Value) : Meets (Builtin.«enumerate.__new__» ⟨[.type "enumerate", .ref t], []⟩) (fun _ R s => s.heap.IsTuple t items ∧
      R (.ok (.ret (.ref (s.heap.push { cls := .type "tuple_iterator", data := .fields #[.ref t, .int 0 0] }).objs.size)))
        { s with heap := (s.heap.push { cls := .type "tuple_iterator", data := .fields #[.ref t, .int 0 0] }).push { cls := .type "enumerate", data := .fields #[.none, .bool false, .ref s.heap.objs.size, rawInt 0, .none, .none] } }) :=
  .of_wp fun prog w A R s h => by
    obtain ⟨hp, g, d, tk, os⟩ := s
    obtain ⟨h1, h⟩ := h
    have sub := sub_enumerate
    have B := begins_tuple t items
    have q1 : ∀ {A' : Around} {E : Value → Shared → Prop} {Q : Value → Shared → Prop}, Q (.ref hp.objs.size) ⟨hp.push { cls := .type "tuple_iterator", data := .fields #[.ref t, .int 0 0] }, g, d, tk, os⟩ → wpAny (model prog w) A' (pyIter (.ref t)) Q E ⟨hp, g, d, tk, os⟩ :=
      fun q => B.iter prog w _ _ ⟨hp, g, d, tk, os⟩ _ h1 q
    wp_walk using q1
    refine wpAny_stack_any fun st => wpAny_pure ?_
    split
    · rename_i c _ _ _ _ _
      cases (c == Value.type "enumerate")
      · (wp_walk using q1); exact ⟨_, rfl, h⟩
      · (wp_walk using q1); exact ⟨_, rfl, h⟩
    · (wp_walk using q1); exact ⟨_, rfl, h⟩
section
variable {prog : Program} {w : World} {A : Around} {E : Value → Shared → Prop} {s : Shared}
theorem call_enumT {t : Addr} {items : Array Value} {Q : Value → Shared → Prop} (h1 : s.heap.IsTuple t items)
    (h : ∀ h', IsEnum h' (s.heap.objs.size + 1) s.heap.objs.size 0 .none → h'.IsTupleIter s.heap.objs.size t 0 → (∀ b o, s.heap.get? b = some o → h'.get? b = some o) → Q (.ref (s.heap.objs.size + 1)) { s with heap := h' }) :
    wpAny (model prog w) A (call (.type "enumerate") [.ref t]) Q E s := by
  have M := meets_enumT t items
  have C := @callType_new
  refine callType_new F.called_enumerate (by decide) (F.typeCall_enumerate_1 _) (F.newCall_enumerate_1 _) (fun obj => F.args_object_init_2 obj _) F.entry_enumerate_new M ⟨h1, ?_⟩
  have hz : (s.heap.push { cls := .type "tuple_iterator", data := .fields #[.ref t, .int 0 0] }).objs.size = s.heap.objs.size + 1 := Heap.size_push ..
  show _ ∧ _
  rw [hz]
  have he : IsEnum ((s.heap.push { cls := .type "tuple_iterator", data := .fields #[.ref t, .int 0 0] }).push { cls := .type "enumerate", data := .fields #[.none, .bool false, .ref s.heap.objs.size, rawInt 0, .none, .none] }) (s.heap.objs.size + 1) s.heap.objs.size 0 .none := by
    have z := Heap.get?_push_size (s.heap.push { cls := .type "tuple_iterator", data := .fields #[.ref t, .int 0 0] }) (o := { cls := .type "enumerate", data := .fields #[.none, .bool false, .ref s.heap.objs.size, rawInt 0, .none, .none] }) rfl
    rw [hz] at z
    exact z
  exact ⟨⟨_, he, rfl⟩, h _ he ⟨_, Heap.get?_push_of_some _ (Heap.get?_push_size _ rfl), rfl, rfl⟩ fun b o x => Heap.get?_push_of_some _ (Heap.get?_push_of_some _ x)⟩
end
section
variable {X : Cx} {E : XK} {a b c e : Expr} {Fa Fb Fc : Rho → M Sv} {pos p tpos : Pos}
def iEnumT (K : PySem.W.Frag) (ta : TA) : TI := fun σ H R => ta σ H fun vs H1 => ∃ a xs, vs = [.ref a] ∧ SqT K H1 a xs ∧ R (Itet K a) H1
theorem pi_enumT {ta : TA} {elts : List Expr} {kk : Nat} (hg : Gl X "enumerate") (hm : X.mg "enumerate" = none) (ha : PA X [e] ta) (hs : starEach [e] X.env = [(false, eval e X.env)] := by rfl) :
    PI X (.Tuple elts kk tpos) (.Call (.Name "enumerate" p) [e] [] pos) (iEnumT X.K ta) := by
  constructor
  intro pins s σ H R I h
  refine Call_ (ld_blt I hg hm boot_enumerate (PyProof.Rows.callWith_type1 (thn (ha.run pos pins s σ H _ I h) fun us s1 ⟨vs, H1, I1, r1, a, xs, ex, hq, q⟩ => ?_) hs rfl))
  subst ex
  obtain ⟨u, rfl, rx⟩ := vals1 r1
  cases rx
  obtain ⟨its, rv, p', hz⟩ := I1.tuple hq
  have hal : a < s1.heap.objs.size := let ⟨_, z, _⟩ := p'; Heap.lt_size z
  refine call_enumT p' fun h' he hit hk => wpAny_pyIter_enum he ?_
  refine ⟨s1.heap.objs.size + 1, [s1.heap.objs.size + 1, s1.heap.objs.size], _, _, H1, rfl, I1.kept (t' := s1.toks) hk, turn_enumT a (s1.heap.objs.size + 1) s1.heap.objs.size (Nat.succ_ne_self _) (Nat.ne_of_lt hal) (Nat.ne_of_gt (Nat.lt_succ_of_lt hal)), ⟨⟨.none, he⟩, hit⟩, fun b hb => ?_, q⟩
  have hle : s1.heap.objs.size ≤ b := by
    rcases List.mem_cons.mp hb with z | z
    · rw [z]
      exact Nat.le_succ _
    · rw [List.mem_singleton.mp z]
      exact Nat.le_refl _
  exact I1.fpOk hle (I1.hok.fresh hle)
def enuD (ds : List PyData) : List PyData := zipD (fromTo 0 ds.length) ds
theorem enu_len {ds : List PyData} : (enuD ds).length = ds.length := by
  unfold enuD zipD fromTo
  rw [List.length_zipWith, List.length_map, List.length_range, Nat.min_self]
theorem enu_at {ds : List PyData} {i : Nat} {d : PyData} (h : (enuD ds)[i]? = some d) : ∃ x, ds[i]? = some x ∧ d = .tuple [.int (i : Nat), x] := by
  obtain ⟨d1, d2, e1, e2, rfl⟩ := zip_at h
  obtain ⟨_, rfl⟩ := fromTo_at e1
  exact ⟨d2, e2, by rw [Int.zero_add]⟩
theorem wk_enu {K : PySem.W.Frag} {W : Wd} {a : Addr} {vs : List V} {ds : List PyData} (h : SqT K W.S a vs) (r : Dqs K W.S vs ds) : Wk K (Itet K a) W (enuD ds) where
  go := fun i d W1 H μ g R e => by
    obtain ⟨y, e2, rfl⟩ := enu_at e
    obtain ⟨v, a1, _⟩ := r.getD e2
    exact ⟨vs, v, seqT_mono R.sub (seqT_mono g h), a1⟩
  yld := fun i d W1 H μ x H' g R e y => by
    obtain ⟨z, e2, rfl⟩ := enu_at e
    obtain ⟨T, x1, rfl, nT, rfl, f1⟩ := y
    obtain ⟨v, a1, q1⟩ := r.getD e2
    have z1 := f1 vs (seqT_mono R.sub (seqT_mono g h))
    rw [a1] at z1
    cases z1
    exact pair_new R nT (.int _) (Dq.mono g q1)
  stop := fun i W1 H μ g R e => ⟨vs, seqT_mono R.sub (seqT_mono g h), by rw [r.len, ← enu_len]; exact e⟩
def enuV (Fa : Rho → M Sv) (ρ : Rho) : M (List PyData) := (Fa ρ).bind fun s => match s with
  | .dat (.tuple ds) => M.ret (enuD ds)
  | _ => M.fail
theorem i_enu {elts : List Expr} {kk : Nat} (hc : X.calm = true) (hm : X.mg "enumerate" = none) (ha : PX X E a Fa) (hg : Gl X "enumerate" := by rfl) (hs : starEach [a] X.env = (false, eval a X.env) :: starEach [] X.env := by rfl) (hs2 : starEach [a] X.env = [(false, eval a X.env)] := by rfl) :
    PIX X E (.Tuple elts kk tpos) (.Call (.Name "enumerate" p) [a] [] pos) (enuV Fa) := pi_weak (pi_enumT hg hm (pa_cons ha pa_nil hs) hs2) fun σ H R ⟨W, ρ, μ, r, h, e, q⟩ => by
  refine tX_bind h e q fun v s W1 H1 μ1 g1 h1 rs e1 q1 => ?_
  split at e1
  · cases e1
    cases rs with
    | tup z1 y1 => exact ⟨_, _, rfl, seqT_mono h1.rel.sub z1, q1 _ _ (Grow.refl _ _ _) h1.rel _ (wk_enu z1 y1)⟩
  · cases e1
end
end Pf

namespace Pf
open PySem PySem.Spec PyProof.Rows L2
/-! ### an error of the program's own, with one field -/
section
open PySem.W PySem.Calls PySem.HandSPX
def tlArgs (a b : Pos) : Arguments := { vararg := none, kwarg := none, posonlyargs := [], kwonlyargs := [], kw_defaults := [], defaults := [], args := [{ arg := "self", annotation := none, pos := a }, { arg := "bound", annotation := none, pos := b }] }
def tlBody (a b c d : Pos) : List Stmt := [.Assign [.Attribute (.Name "self" a) "bound" b] (.Name "bound" c) d]
def tlScope : Scope := { isGenerator := false, isCoroutine := false, more := [], kind := .function, names := [(PySem.Str.ofString "self", .local), (PySem.Str.ofString "bound", .local)] }
/-- what stands of TooLarge, at C, its __init__ at f -/
structure TL (K : Frag) (mg : Str → Option Value) (C f : Addr) : Prop where
  nC : nsIn K mainGlobals "TooLarge" = some (some (.ref C))
  gC : mg "TooLarge" = some (.ref C)
  ob : ∃ nm q N bs bm sn sub ab col dd m0 m1 m2 m3 m5, K.lookup C = some (excClassObj nm q C N bs bm true sn sub ab col dd m0 m1 m2 m3 m5 "ValueError.__new__") ∧ refsVE bm = true
  f_set : findIn K (.ref C) "__setattr__" = some (some (.builtin "object.__setattr__"))
  f_get : findIn K (.ref C) "__getattribute__" = some (some (.builtin "BaseException.__getattribute__"))
  f_at : findIn K (.ref C) "__getattr__" = some none
  f_fld : findIn K (.ref C) "bound" = some none
  f_ini : findIn K (.ref C) "__init__" = some (some (.ref f))
  f_cls : findIn K (.ref C) "__class__" = some (some (.builtin "object.__class__"))
  s_get : specialIn K (.builtin "object.__class__") "__get__" = some (some (.builtin "getset_descriptor.__get__"))
  tk : takesIn K (.builtin "object.__class__") = some true
  mro : mroIn K C (.type "object") = some true
  tyF : typeIn K (.ref f) = some (.type "function")
  kp : keepIn K (.ref C) = true
  sub : subIn K (.ref C) (.type "BaseException") = some true
  tyC : typeIn K (.ref C) = some (.type "type")
  dct : hasDictIn K C = true
  fn : ∃ (oc : Value) (od : Option Addr) (kV doc pm : Value) (an : Option Addr) (cdv ct : Value) (osl : Array (Option Value)) (p1 p2 q1 q2 q3 q4 : Pos),
    K.lookup f = some ⟨oc, od, .func (fnOf "__init__" "TooLarge.__init__" (tlArgs p1 p2) (tlBody q1 q2 q3 q4) tlScope .none kV doc pm an cdv ct), osl⟩ ∧ codeIn K cdv "TooLarge.__init__" = true
theorem sz_one (v : Value) : [v].length ≤ sizeLine := by
  rw [sizeLine_eq]
  show 1 ≤ 16777216
  decide
theorem ld_param {M : Model} {s : Shared} {nm : Str} {sc : Scope} {L a : Addr} {cdv : Value} {m : Str → Option Value} {y : Str} {pos : Pos} {v : Value} {Q : Value → Shared → Prop} {A : Around} {E : Value → Shared → Prop} (hn : s.heap.Ns L m) (hv : m y = some v) (h : Q v s)
    (hk : sc.kind = .function := by rfl) (hl : (envOfC nm sc L a cdv).kindOf y = some .local := by rfl) (hd : (y == ("__debug__" : Str)) = false := by decide) : wpAny M A (eval (.Name y pos) (envOfC nm sc L a cdv)) Q E s := by
  refine wpAny_Name (wpAny_loadName_local hk hl hn hv h) hd
/-- behind __init__ -/
structure TlEnd (h h' : Heap) (x C dx t1 : Addr) (v : Value) : Prop where
  rest : ∀ b o, b ≠ x → h.get? b = some o → h'.get? b = some o
  self : h'.get? x = some { cls := .ref C, data := .fields #[.ref t1, .none, .none, .none, .bool false, .none], dict := some dx }
  late : h.objs.size ≤ dx
  apart : dx ≠ x
  fld : h'.Ns1 dx (fun y => if y = "bound" then some v else none)
/-- behind the making -/
structure TlMade (h h' : Heap) (e C d : Addr) (v : Value) : Prop where
  rest : ∀ b o, h.get? b = some o → h'.get? b = some o
  new : h.objs.size ≤ e
  self : ∃ oe vs, h'.get? e = some oe ∧ oe.cls = .ref C ∧ oe.dict = some d ∧ oe.data = .fields vs ∧ vs[1]? = some .none
  late : h.objs.size ≤ d
  apart : d ≠ e
  fld : h'.Ns1 d (fun y => if y = "bound" then some v else none)
variable {prog : Program} {w : World} {A : Around} {E : Value → Shared → Prop} {R : Result → Shared → Prop} {s : Shared} {K : Frag} {mg : Str → Option Value} {C f : Addr}
theorem tl_init (T : TL K mg C f) {x t0 : Addr} {v : Value} (X : K.In s.heap) (lim : s.heap.NoLimit) (hx : s.heap.get? x = some (excO C t0)) (room : A.depth < recursionLimit)
    (fin : ∀ h' tk dx, TlEnd s.heap h' x C dx t0 v → R (.ok (.ret .none)) { s with heap := h', toks := tk }) : codeAny (model prog w) A (.call (.ref f) ⟨[.ref x, v], []⟩) R s := by
  obtain ⟨oc, od, kV, doc, pm, an, cdv, ct, osl, p1, p2, q1, q2, q3, q4, ho, hcd⟩ := T.fn
  obtain ⟨nm, q, N, bs, bm, sn, sub, ab, col, dd, m0, m1, m2, m3, m5, hC, hbm⟩ := T.ob
  have cd : clsIn K C = some { name := nm, bases := bs, mro := .ref C :: bm, ns := N, qualname := q, hasDict := true, slotNames := sn, subclasses := sub, abstract := ab, collection := col, hasDel := false } := by
    unfold clsIn
    rw [hC] <;> rfl
  refine Att.call_fn (binds := [("self", .ref x), ("bound", v)]) X lim ho hcd room (BindsTo.of_eq (by first | rfl | with_unfolding_all rfl)) (by first | rfl | decide | with_unfolding_all rfl) (fun s₁ ic => ?_) rfl rfl rfl
  obtain ⟨h₁, tk₁, rfl⟩ := ic.toInCall.same
  have keep := ic.toInCall.keep
  have ns := ic.toInCall.ns
  have X₁ : K.In h₁ := X.keeps keep
  have hx₁ := keep _ _ hx
  show wpAny _ _ (execs _ _) _ _ _
  refine wpAny_execs_cons (plainObj_wpAny_Assign_Attribute (ld_param (v := v) ns (by first | rfl | with_unfolding_all rfl | kernel_rfl) (ld_param (v := .ref x) ns (by first | rfl | with_unfolding_all rfl | kernel_rfl) ?_)))
  refine set_plain X₁ (ox := excO C t0) (od := none) ⟨hx₁, rfl, rfl, trivial⟩ T.f_set (exc_osa X₁ hx₁ cd (show refsVE (.ref C :: bm) = true from hbm) rfl T.f_fld (fun h₃ tk₃ dx k₃ dn dne hx₃ hn₃ => ?_))
  have lt : s.heap.objs.size < h₁.objs.size := ns.lt
  show wpAny _ _ (execs _ _) _ _ _
  exact wpAny_execs_nil (fin h₃ tk₃ dx ⟨fun b o hb e => k₃ b o hb (keep b o e), hx₃, Nat.le_of_lt (Nat.lt_of_lt_of_le lt dn), dne, hn₃⟩)
theorem tl_made (T : TL K mg C f) {v : Value} (X : K.In s.heap) (lim : s.heap.NoLimit) (room : A.depth + 1 < recursionLimit) (fin : ∀ h' tk e d, TlMade s.heap h' e C d v → R (.ok (.ret (.ref e))) { s with heap := h', toks := tk }) :
    codeAny (model prog w) A (.call (.ref C) ⟨[v], []⟩) R s := by
  obtain ⟨nm, q, N, bs, bm, sn, sub, ab, col, dd, m0, m1, m2, m3, m5, hC, hbm⟩ := T.ob
  obtain ⟨hp, g, dr, tk, os⟩ := s
  have keep : ∀ b o, hp.get? b = some o → ((hp.push (kdv_tup [v])).push (excO C hp.objs.size)).get? b = some o := fun b o e => Heap.get?_push_of_some _ (Heap.get?_push_of_some _ e)
  have at_ : ((hp.push (kdv_tup [v])).push (excO C hp.objs.size)).get? (hp.objs.size + 1) = some (excO C hp.objs.size) := by heap_get
  refine call_own F.excBase_ValueError (fun Y => refsVE_contains Y bm hbm) (X _ _ hC) (looks_findIn X T.f_ini) (fun self => bind_fn X self T.tyF) (sz_one v) ?_
  refine tl_init (s := ⟨(hp.push (kdv_tup [v])).push (excO C hp.objs.size), g, dr, tk, os⟩) T (X.keeps keep) (lim.keeps keep) at_ (show A.depth + 1 < recursionLimit from room) fun h' tk' dx ⟨k', hx, dn, dne, hns⟩ => ?_
  have old : ∀ b o, hp.get? b = some o → h'.get? b = some o := fun b o e => k' b o (Nat.ne_of_lt (Nat.lt_succ_of_lt (Heap.lt_size e))) (keep b o e)
  have z : hp.objs.size + 1 + 1 ≤ dx := by
    first
      | (simpa only [Heap.size_push] using dn)
      | exact dn
      | (have q := dn; rw [Heap.size_push, Heap.size_push] at q; exact q)
  refine ⟨rfl, fin h' tk' (hp.objs.size + 1) dx ⟨old, Nat.le_succ _, ⟨_, _, hx, rfl, rfl, rfl, rfl⟩, Nat.le_trans (Nat.le_trans (Nat.le_succ _) (Nat.le_succ _)) z, dne, hns⟩⟩
end
theorem rel_bound {v : V} {v' : Value} (r : RelV v v') (g : Str) : RelO (List.lookup g [(("bound" : Str), v)]) (if g = "bound" then some v' else none) := by
  by_cases h : g = "bound"
  · subst h
    rw [if_pos rfl, show List.lookup ("bound" : Str) [(("bound" : Str), v)] = some v by simp [List.lookup]]
    exact r
  · rw [if_neg h, show List.lookup g [(("bound" : Str), v)] = none by
      have n : (g == ("bound" : Str)) = false := by simpa using h
      simp [List.lookup, n]]
    trivial
section
variable {X : Cx} {E : XK} {C f : Addr} {k : Nat} {a e : Expr} {es : List Expr} {Fa : Rho → M Sv} {Fs Fk : Rho → M (List Sv)} {p pos pos2 : Pos}
def mkTl (C : Addr) (ta : TA) : L2.St → Hp → XK → Prop := fun σ H Q => ta σ H fun vs H1 => ∃ v, vs = [v] ∧ ∀ d, H1 d = none → Q (.ref C) (some d) (upd H1 d (.xd [(("bound" : Str), v)]))
theorem pmk_tl {ta : TA} (T : TL X.K X.mg C f) (hr : Room k X.A) (ha : PA X [a] ta) (hg : Gl X "TooLarge" := by rfl) (he : starEach (a :: []) X.env = (false, eval a X.env) :: starEach [] X.env := by rfl) (hpl : (backTo pos (starEach [] X.env)).any (·.1) = false := by rfl) :
    PMk X (.Call (.Name "TooLarge" p) [a] [] pos) (mkTl C ta) := by
  intro pins s σ H Q I h
  refine wpAny_Call_Name_kw (ld_glob I hg T.gC (PySem.W.callWith_K (h₀ := X.base) I.ok.mod.kin T.kp (thn (ha.run pos pins s σ H _ I h) fun us s1 ⟨vs, H1, I1, r1, v, ev, q1⟩ => ⟨I1.kIn, ?_⟩) he hpl))
  subst ev
  obtain ⟨u, rfl, rv⟩ := vals1 r1
  show wpAny _ _ (call (.ref C) [u]) _ _ _
  have lim := I1.nolimit
  obtain ⟨hp, g, dr, tk, os⟩ := s1
  refine wpAny_call (tl_made T I1.kIn lim (by have := hr.dp; omega) fun h' tk' e d mk => ?_)
  show MkP X pins σ Q (.ref e) ⟨h', g, dr, tk', os⟩
  obtain ⟨oe, fv, hoe, hc, hd, hdat, h1⟩ := mk.self
  obtain ⟨G, g1, g2⟩ := restrict h' fun b => decide (b ≠ e)
  have gk : ∀ b, b ≠ e → G.get? b = h'.get? b := fun b hb => g1 b (decide_eq_true hb)
  have ge : G.get? e = none := g2 e (by simp)
  have old : ∀ b o, hp.get? b = some o → G.get? b = some o := fun b o q => (gk b (Nat.ne_of_lt (Nat.lt_of_lt_of_le (Heap.lt_size q) mk.new))).trans (mk.rest b o q)
  have ob : ObjOk X.prog X.w (upd H1 d (.xd [(("bound" : Str), v)])) G d (.xd [(("bound" : Str), v)]) := ⟨_, mk.fld.at (fun o q => (gk d mk.apart).trans q), fun g => rel_bound rv g⟩
  have J : Inv X pins σ (upd H1 d (.xd [(("bound" : Str), v)])) ⟨G, g, dr, tk', os⟩ := I1.laid (t' := tk') old mk.late ob
  have none_e : upd H1 d (.xd [(("bound" : Str), v)]) e = none := by
    rw [upd_ne (Ne.symm mk.apart)]
    exact I1.hok.fresh mk.new
  refine ⟨e, oe, fv, ⟨G, g, dr, tk', os⟩, _, .ref C, some d, rfl, J, fun b o q => ?_, ge, hoe, ⟨hc, hd⟩, hdat, h1, none_e, rfl, I1.bare, raises_own T.sub T.tyC, q1 d (I1.hok.fresh mk.late)⟩
  have q0 : G.get? b = some o := q
  have hb : b ≠ e := fun z => by
    rw [z, ge] at q0
    cases q0
  exact (gk b hb).symm.trans q0
def gRaise (Fa : Rho → M Sv) (ρ : Rho) : M Out := (Fa ρ).bind fun s => M.thr ⟨"TooLarge", some ("bound", s)⟩
theorem s_raise (T : TL X.K X.mg C f) (hc : X.calm = true) (hr : Room k X.A) (tk : Takes X (fun cls d _ H => E cls d H)) (ha : PX X E a Fa) (hg : Gl X "TooLarge" := by rfl) (he : starEach (a :: []) X.env = (false, eval a X.env) :: starEach [] X.env := by rfl) (hpl : (backTo pos (starEach [] X.env)).any (·.1) = false := by rfl) :
    PSX X E (.Raise (some (.Call (.Name "TooLarge" p) [a] [] pos)) none pos2) (gRaise Fa) := ps_weak (ps_raise hc tk (pmk_tl T hr (pa_cons ha pa_nil he) hg he hpl)) fun D σ H ⟨W, ρ, μ, r, h, e, q⟩ => by
  refine tX_bind h e q fun v s W1 H1 μ1 g1 h1 rs e1 q1 => ⟨v, rfl, fun d hd => ?_⟩
  cases e1
  exact q1 W1 _ (.ref C) (some d) ((Grow.refl _ _ _).out hd fun b hb => upd_ne hb) (h1.rel.lay hd) ⟨⟨C, T.nC, rfl⟩, d, v, rfl, upd_same, rs⟩
/-! ### isinstance of a caught one -/
def rIs1 (K : PySem.W.Frag) (C a : Addr) (cls : Value) (d : Option Addr) : List V → Hp → VK → Prop := fun xs H Q => ∃ (dd : Addr) (fs : List (Str × V)) (C1 : Addr) (b : Bool), cls = .ref C ∧ d = some dd ∧ H dd = some (.xd fs) ∧ xs = [.ref a, .ref C1] ∧ PySem.W.kitOne K (.ref C) (.ref C1) = some b ∧ Q (.bl b) H
theorem held_at {pins : List (Addr × Obj)} {σ : L2.St} {H : Hp} {s : Shared} {a dd : Addr} {oe : Obj} {pn : List (Addr × Obj)} {fs : List (Str × V)} (I : Inv (X.suite a ((a, oe) :: pn)) pins σ H s) (hz : Zc (.ref C) (some dd) oe) (hf : ∃ vs, oe.data = .fields vs) (hd : H dd = some (.xd fs)) :
    ∃ od, PySem.W.InstAt s.heap a oe C (some od) := by
  obtain ⟨ha, _⟩ := I.pin (a, oe) (List.mem_append_left _ List.mem_cons_self)
  obtain ⟨vs, hv⟩ := hf
  have hx : ObjOk X.prog X.w H s.heap dd (.xd fs) := I.hok dd _ hd
  obtain ⟨mA, hns, _⟩ := hx
  obtain ⟨od, ho, _⟩ := lookIn_ns hns
  exact ⟨od, ha, hz.1, by unfold PySem.W.notCls; rw [hv] <;> rfl, by rw [hz.2]; exact ho⟩
/-! ### the try of the law's own -/
/-- exceptions of a try's body, whatever the slots -/
def EW (n : Nat) (W : WX) : XK := fun cls d H => ∀ σ : L2.St, σ.length = n → W cls d σ H
/-- the classes that the clause names -/
structure ErrZ (K : PySem.W.Frag) (mg : Str → Option Value) (C f CF C1 C2 : Addr) : Prop where
  tl : TL K mg C f
  gF : mg "FallError" = some (.ref CF)
  g1 : mg "BadLength" = some (.ref C1)
  g2 : mg "BadTree" = some (.ref C2)
  ex : PySem.W.exmOne K (.ref C) (.ref CF) = some true
  k0 : PySem.W.kitOne K (.ref C) (.ref C) = some true
  k1 : PySem.W.kitAny K (.ref C) [.ref C1, .ref C2] = some false
end
/-! ### a call with keywords -/
structure KB (K : PySem.W.Frag) (fd : FuncData) (ps : List Str) (n : Nat) (ks : List Str) : Prop where
  to : ∀ (s : Shared) (us ws : List Value), K.In s.heap → us.length = n → ws.length = ks.length → BindsTo s fd ⟨us, ks.zip ws⟩ (ps.zip (us ++ ws))
abbrev PKX (X : Cx) (E : XK) (kws : List Keyword) (F : Rho → M (List Sv)) : Prop := PK X kws (tAr X.K E F)
theorem pk_weak {X : Cx} {e : List Keyword} {t t' : TA} (h : PK X e t) (w : ∀ σ H Q, t' σ H Q → t σ H Q) : PK X e t' := ⟨fun pos pins s σ H Q I q => h.run pos pins s σ H Q I (w _ _ _ q)⟩
section
variable {X : Cx} {E : XK} {CX : CXT} {k j n : Nat} {f : Addr} {fd : FuncData} {ps ks : List Str} {x : Str} {p pos kpos : Pos} {a e : Expr} {es : List Expr} {kws : List Keyword} {nm : Option Str} {Fm : List Sv → M Sv} {Fa : Rho → M Sv} {Fs Fk : Rho → M (List Sv)}
theorem k_nil : PKX X E [] argN := pk_weak pk_nil fun σ H Q ⟨W, ρ, μ, r, h, e, q⟩ => by
  cases e
  exact q _ _ (Grow.refl _ _ _) h.rel _ .nil
theorem k_cons (ha : PX X E a Fa) (hr : PKX X E kws Fs) : PKX X E (⟨nm, a, kpos⟩ :: kws) (argC Fa Fs) := pk_weak (pk_cons ha hr) fun σ H Q ⟨W, ρ, μ, r, h, e, q⟩ => by
  refine tX_bind h e q fun v a W1 H1 μ1 g1 h1 ra e1 q1 => tAr_bind h1 e1 q1 fun vs ss W2 H2 μ2 g2 h2 rs e2 q2 => ?_
  cases e2
  exact q2 _ _ (Grow.refl _ _ _) h2.rel _ (.cons (ra.grow g2) rs)
end
end Pf

namespace Pf
open PySem PySem.Spec PyProof.Rows L2
/-! running bodies, what is shown: shared by the laws -/
/-! ### a tuple's repetition -/
/-! ### more running -/
theorem args_c {F : Rho → M Sv} {Fs : Rho → M (List Sv)} {ρ : Rho} {μ μ1 μ2 : Mu} {a : Sv} {as : List Sv} (h : F ρ μ = some (.ok a μ1)) (h2 : Fs ρ μ1 = some (.ok as μ2)) : argC F Fs ρ μ = some (.ok (a :: as) μ2) := by
  unfold argC
  rw [bind_ok h, bind_ok h2]
  rfl
theorem args_n {ρ : Rho} {μ : Mu} : argN ρ μ = some (.ok [] μ) := rfl
theorem atI_mem {α : Type} {xs : List α} {i : Int} (h0 : 0 ≤ i) (h1 : i < xs.length) : ∃ x, x ∈ xs ∧ atI xs i = some x := by
  obtain ⟨x, a, b⟩ := atI_lt h0 h1
  exact ⟨x, List.mem_of_getElem? a, b⟩
/-! ### values by two kinds: no dict within, no list within -/
def cls (c : Bool) (d : PyData) : Bool := match c with
  | true => bare d
  | false => !d.hasDict
structure Va (c : Bool) (d : PyData) (n k : Nat) : Prop where
  lf : lfs d = true
  cl : cls c d = true
  dp : d.depth ≤ k
  sz : wt d ≤ n
theorem Va.up {c : Bool} {d : PyData} {n k n' k' : Nat} (h : Va c d n k) (hn : n ≤ n') (hk : k ≤ k') : Va c d n' k' := ⟨h.lf, h.cl, Nat.le_trans h.dp hk, Nat.le_trans h.sz hn⟩
theorem Va.nice {c : Bool} {d : PyData} {n k : Nat} (h : Va c d n k) (hk : k ≤ 10) : Nice d n := ⟨h.lf, by
  have z := h.cl
  cases c with
  | true => rw [show bare d = true from z, Bool.or_true]
  | false => rw [show (!d.hasDict) = true from z, Bool.true_or], Nat.le_trans h.dp hk, h.sz⟩
theorem bareAll_of : ∀ {ds : List PyData}, (∀ d ∈ ds, bare d = true) → bare.bareAll ds = true
  | [], _ => by simp only [bare.bareAll]
  | d :: ds, h => by
    simp only [bare.bareAll, h d List.mem_cons_self, bareAll_of (ds := ds) fun d hd => h d (List.mem_cons_of_mem _ hd), Bool.and_self]
theorem Va.tuple {c : Bool} {ds : List PyData} {n k : Nat} (h : ∀ d ∈ ds, Va c d n k) : Va c (.tuple ds) ((n + 2) * ds.length + 3) (k + 1) :=
  ⟨by simp only [lfs]; exact lfss_of fun d hd => (h d hd).lf, by
    cases c with
    | true => simp only [cls, bare]; exact bareAll_of fun d hd => (h d hd).cl
    | false =>
      simp only [cls, PyData.hasDict]
      rw [nodict_of fun d hd => ?_]
      · rfl
      · have z : (!d.hasDict) = true := (h d hd).cl
        simpa using z, by simp only [PyData.depth]; exact Nat.succ_le_succ (depth_of fun d hd => (h d hd).dp),
    by simp only [wt]; exact Nat.add_le_add_right (wts_le fun d hd => (h d hd).sz) 3⟩
theorem Va.list {ds : List PyData} {n k : Nat} (h : ∀ d ∈ ds, Va false d n k) : Va false (.list ds) ((n + 2) * ds.length + 2) (k + 1) :=
  ⟨by simp only [lfs]; exact lfss_of fun d hd => (h d hd).lf, by
      simp only [cls, PyData.hasDict]
      rw [nodict_of fun d hd => ?_]
      · rfl
      · have z : (!d.hasDict) = true := (h d hd).cl
        simpa using z, by simp only [PyData.depth]; exact Nat.succ_le_succ (depth_of fun d hd => (h d hd).dp),
    by simp only [wt]; exact Nat.add_le_add_right (wts_le fun d hd => (h d hd).sz) 2⟩
def vaB (c : Bool) (d : PyData) (n k : Nat) : Bool := lfs d && cls c d && decide (d.depth ≤ k) && decide (wt d ≤ n)
theorem Va.of {c : Bool} {d : PyData} {n k : Nat} (h : vaB c d n k = true) : Va c d n k := by
  obtain ⟨h, h4⟩ := Bool.and_eq_true_iff.mp h
  obtain ⟨h, h3⟩ := Bool.and_eq_true_iff.mp h
  obtain ⟨h1, h2⟩ := Bool.and_eq_true_iff.mp h
  exact ⟨h1, h2, of_decide_eq_true h3, of_decide_eq_true h4⟩
theorem Va.int {c : Bool} {i : Int} (h : i.natAbs < 10 ^ 42) : Va c (.int i) 44 0 := ⟨by simp only [lfs]; exact decide_eq_true h, by cases c <;> simp [cls, bare, PyData.hasDict], by simp only [PyData.depth]; exact Nat.le_refl _, by simp only [wt]; exact Nat.le_refl _⟩
/-! ### results that may be the error -/
section
variable {α : Type} {enc : α → List Sv} {ok : α → Prop} {out : α → Option PyData}
open Classical in
end
end Pf

namespace Pf
open PySem PySem.Spec PyProof.Rows L2 PySem.W 
/-! ### max(xs), min(xs) of ints; e in xs -/
section
variable {X : Cx} {E : XK}
/-- max, min of a list or a tuple of ints -/
def bBest (f : Int → Int → Int) (ss : List Sv) : M Sv := match ss with
  | [s] => (rd s).bind fun d => match d with
    | .list ds => (orFail (asInts ds)).bind fun ns => match ns with
      | n :: r => M.ret (.dat (.int (r.foldl f n)))
      | [] => M.fail
    | .tuple ds => (orFail (asInts ds)).bind fun ns => match ns with
      | n :: r => M.ret (.dat (.int (r.foldl f n)))
      | [] => M.fail
    | _ => M.fail
  | _ => M.fail
theorem asInts_eq : ∀ {ds : List PyData} {ns : List Int}, asInts ds = some ns → ds = ns.map PyData.int
  | [], _, e => by
    cases e
    rfl
  | .int i :: ds, _, e => by
    have e' : (asInts ds).map (i :: ·) = some _ := e
    cases q : asInts ds with
    | none =>
      rw [q] at e'
      cases e'
    | some z =>
      rw [q] at e'
      cases e'
      rw [asInts_eq q]
      rfl
  | .none :: _, _, e => nomatch e
  | .bool _ :: _, _, e => nomatch e
  | .str _ :: _, _, e => nomatch e
  | .list _ :: _, _, e => nomatch e
  | .tuple _ :: _, _, e => nomatch e
  | .dict _ :: _, _, e => nomatch e
theorem alike_ints (ns : List Int) : AlikeAll (ns.map PyData.int) := by
  refine ⟨fun x hx y hy => ?_, fun x hx => ?_⟩
  · obtain ⟨i, _, rfl⟩ := List.mem_map.mp hx
    obtain ⟨j, _, rfl⟩ := List.mem_map.mp hy
    rfl
  · obtain ⟨i, _, rfl⟩ := List.mem_map.mp hx
    exact fun z => nomatch z
theorem depth_int : ∀ ns : List Int, PyData.depthAll (ns.map PyData.int) = 0
  | [] => by simp only [List.map_nil, PyData.depthAll]
  | n :: r => by simp only [List.map_cons, PyData.depthAll, PyData.depth, depth_int r, Nat.max_self]
theorem best_ent {f : Int → Int → Int} {xs : List V} {H : Hp} {Q : VK} (h : rC X.K E (bBest f) xs H Q) :
    ∃ (a : Addr) (vs : List V) (n : Int) (r : List Int), xs = [V.ref a] ∧ (H a = some (.lst vs) ∨ SqT X.K H a vs) ∧ Dqs X.K H vs ((n :: r).map PyData.int) ∧ Q (.int (r.foldl f n)) H := by
  obtain ⟨W, μ, ss, r, R, rs, e, q⟩ := h
  unfold bBest at e
  split at e
  · obtain ⟨x, rfl, h⟩ := rels1 rs
    obtain ⟨d, e1, e⟩ := rd_bind e
    obtain ⟨d', z1, h1⟩ := rd_rel R h e1
    cases z1
    split at e
    · obtain ⟨ns, e2, e⟩ := orFail_some e
      cases ns with
      | nil => cases e
      | cons n r =>
        cases e
        have z := asInts_eq e2
        subst z
        cases h1 with
        | lst h2 r2 => exact ⟨_, _, n, r, rfl, .inl h2, r2, q _ _ (Grow.refl _ _ _) R _ (.int _)⟩
    · obtain ⟨ns, e2, e⟩ := orFail_some e
      cases ns with
      | nil => cases e
      | cons n r =>
        cases e
        have z := asInts_eq e2
        subst z
        cases h1 with
        | tup h2 r2 => exact ⟨_, _, n, r, rfl, .inr h2, r2, q _ _ (Grow.refl _ _ _) R _ (.int _)⟩
    · cases e
  · cases e
abbrev bMaxA := bBest max
abbrev bMinA := bBest min
theorem b_maxA (hu : X.A.units + 64 < cLine) (hc : X.calm = true := by rfl) : CallR X (.builtin "max") (rC X.K E bMaxA) := by
  intro pins s σ H xs us Q I rv h
  obtain ⟨a, vs, n, r, rfl, hs, hd, q⟩ := best_ent h
  obtain ⟨u, rfl, rx⟩ := vals1 rv
  cases rx
  have dp := depth_int (n :: r)
  have fin : ∀ v h' tk bs, Reads h' v (maxD (.int n) (r.map .int)) bs → (∀ b o, s.heap.get? b = some o → h'.get? b = some o) → EP X pins σ Q v { s with heap := h', toks := tk } := fun v h' tk bs rd k => by
    rw [maxD_ints] at rd
    cases rd with
    | int i t => exact ⟨.int _, H, I.kept k, ⟨_, rfl⟩, q⟩
  rcases hs with hs | hs
  · obtain ⟨its, rv2, ht, hz⟩ := I.list (SqL.of hs)
    obtain ⟨as, hr, _⟩ := Dqs.reads I hd rv2
    exact max_list_data (vs := its.toArray) (I.ok.hd hc) ht.isList hr (alike_ints (n :: r)) (by rw [show PyData.depthAll (PyData.int n :: r.map PyData.int) = 0 from dp]; omega) fun i v h' tk bs _ rd k => fin v h' tk bs rd k
  · obtain ⟨its, rv2, ht, hz⟩ := I.tuple hs
    obtain ⟨as, hr, _⟩ := Dqs.reads I hd rv2
    exact max_tuple_data (vs := its.toArray) (I.ok.hd hc) ht hr (alike_ints (n :: r)) (by rw [show PyData.depthAll (PyData.int n :: r.map PyData.int) = 0 from dp]; omega) fun i v h' tk bs _ rd k => fin v h' tk bs rd k
theorem b_minA (hu : X.A.units + 64 < cLine) (hc : X.calm = true := by rfl) : CallR X (.builtin "min") (rC X.K E bMinA) := by
  intro pins s σ H xs us Q I rv h
  obtain ⟨a, vs, n, r, rfl, hs, hd, q⟩ := best_ent h
  obtain ⟨u, rfl, rx⟩ := vals1 rv
  cases rx
  have dp := depth_int (n :: r)
  have fin : ∀ v h' tk bs, Reads h' v (minD (.int n) (r.map .int)) bs → (∀ b o, s.heap.get? b = some o → h'.get? b = some o) → EP X pins σ Q v { s with heap := h', toks := tk } := fun v h' tk bs rd k => by
    rw [minD_ints] at rd
    cases rd with
    | int i t => exact ⟨.int _, H, I.kept k, ⟨_, rfl⟩, q⟩
  rcases hs with hs | hs
  · obtain ⟨its, rv2, ht, hz⟩ := I.list (SqL.of hs)
    obtain ⟨as, hr, _⟩ := Dqs.reads I hd rv2
    exact min_list_data (vs := its.toArray) (I.ok.hd hc) ht.isList hr (alike_ints (n :: r)) (by rw [show PyData.depthAll (PyData.int n :: r.map PyData.int) = 0 from dp]; omega) fun i v h' tk bs _ rd k => fin v h' tk bs rd k
  · obtain ⟨its, rv2, ht, hz⟩ := I.tuple hs
    obtain ⟨as, hr, _⟩ := Dqs.reads I hd rv2
    exact min_tuple_data (vs := its.toArray) (I.ok.hd hc) ht hr (alike_ints (n :: r)) (by rw [show PyData.depthAll (PyData.int n :: r.map PyData.int) = 0 from dp]; omega) fun i v h' tk bs _ rd k => fin v h' tk bs rd k
/-- e in a list of data -/
def pIn (a b : Sv) : M Sv := (rd a).bind fun d => (rd b).bind fun e => match e with
  | .list ds => if (SeqAt.shaped d && SeqAt.shaped (.list ds)) = true then M.ret (.dat (.bool (ds.any fun z => PyData.eqv z d))) else M.fail
  | .tuple ds => if (PyData.plainAll ds && (d.plain && decide (d.depth ≤ 60))) = true then M.ret (.dat (.bool (ds.any fun z => PyData.eqv z d))) else M.fail
  | _ => M.fail
theorem o_in (hu : X.A.units + 65 < cLine) : OpR X (compareOp .In) (rO2 X.K E pIn) := by
  intro pins s σ H x y v u Q I rx ry ⟨W, μ, a, b, r, R, ra, rb, e, q⟩
  unfold pIn at e
  obtain ⟨d, e1, e⟩ := rd_bind e
  obtain ⟨c, e2, e⟩ := rd_bind e
  obtain ⟨d', z1, h1⟩ := rd_rel R ra e1
  obtain ⟨c', z2, h2⟩ := rd_rel R rb e2
  cases z1
  cases z2
  split at e
  · obtain ⟨g, e⟩ := iff_ok e
    obtain ⟨g1, g2⟩ := Bool.and_eq_true_iff.mp g
    cases e
    exact op_inD hu pins s σ H x y v u Q I rx ry ⟨d, _, h1.dp (SeqAt.canLay_of_shaped g1), h2.dp (SeqAt.canLay_of_shaped g2), g1, g2, q _ _ (Grow.refl _ _ _) R _ (.bl _)⟩
  · obtain ⟨g, e⟩ := iff_ok e
    cases e
    obtain ⟨g1, g2⟩ := Bool.and_eq_true_iff.mp g
    obtain ⟨g2, g3⟩ := Bool.and_eq_true_iff.mp g2
    obtain ⟨as, r1, _⟩ := Dq.reads I h1 rx
    obtain ⟨bs, r2, _⟩ := Dq.reads I h2 ry
    exact SeqAt.in_tuple_data r2 r1 g1 g2 (by have := of_decide_eq_true g3; omega) ⟨.bl _, H, I, rfl, q _ _ (Grow.refl _ _ _) R _ (.bl _)⟩
  · cases e
end
end Pf
namespace Pf
open PySem L2
theorem units65 {k : Nat} {A : Around} (hr : Room k A) : A.units + 65 < cLine := by
  have := hr.un
  omega
end Pf

set_option maxHeartbeats 1000000
namespace Pf
open PySem PySem.Spec PyProof.Rows L2
/-! ### the laws' own falls of pushes (law texts of the falls) -/
abbrev Rows' := List (Int × Int)
end Pf

set_option maxHeartbeats 1000000
namespace Pf
open PySem PySem.Spec PyProof.Rows L2
/-! ### the laws' own drawn tables -/
theorem Deck.push {n : Int} {rest μ : Mu} (D : Deck n rest μ) (o : Mu) : Deck n (rest ++ o) (μ ++ o) := by
  obtain ⟨cs, h1, h2, rfl⟩ := D.ex
  exact ⟨cs, h1, h2, rfl⟩
theorem Deck.len {n : Int} {rest μ : Mu} (D : Deck n rest μ) : μ.length = 2 + rest.length := by
  obtain ⟨cs, h1, h2, rfl⟩ := D.ex
  show rest.length + 1 + 1 = _
  omega
theorem Deck.last {n : Int} {rest μ : Mu} {o : MObj} (D : Deck n (rest ++ [o]) μ) : μ[2 + rest.length]? = some o := by
  obtain ⟨cs, h1, h2, rfl⟩ := D.ex
  show (deckMu cs n (rest ++ [o]))[2 + rest.length]? = _
  unfold deckMu
  rw [Nat.add_comm, List.getElem?_cons_succ, List.getElem?_cons_succ, List.getElem?_append_right (Nat.le_refl _), Nat.sub_self]
  rfl
theorem Deck.put {n : Int} {rest μ : Mu} {o : MObj} (D : Deck n (rest ++ [o]) μ) (o' : MObj) : Deck n (rest ++ [o']) (μ.set (2 + rest.length) o') := by
  obtain ⟨cs, h1, h2, rfl⟩ := D.ex
  refine ⟨cs, h1, h2, ?_⟩
  unfold deckMu
  rw [Nat.add_comm, List.set_cons_succ, List.set_cons_succ, List.set_append_right _ _ (Nat.le_refl _), Nat.sub_self]
  rfl
end Pf

set_option maxHeartbeats 1000000
namespace Pf
open PySem PySem.Spec PyProof.Rows L2
/-! ### the laws' own needed pushes -/
def tabD (T : List Int) : PyData := .tuple (T.map .int)
abbrev nS (rows : Rows') (T : List Int) (t : Nat) (o3 o4 o5 o6 o7 : Option Sv) : Rho := [some (.dat (treeD rows)), some (.dat (tabD T)), some (.ref t), o3, o4, o5, o6, o7, none, none]
end Pf

set_option maxHeartbeats 4000000
namespace Pf
open PySem PySem.Spec PyProof.Rows L2
/-! ### a tuple times 1: the tuple itself -/
end Pf

namespace Pf
open PySem PySem.Spec PyProof.Rows L2
/-! ### the second reading: values are data, the deck is the state -/
/-- the deck: its cells (of the laws whose draws are told apart: what is left of them), the count, the cells that stay -/
structure Dk where
  cs : List Int
  n : Int
  ce : Option (List Int)
structure Ec where
  C : Str
  fld : Option (Str × PyData)
def Ec.up (c : Ec) : Exc := ⟨c.C, c.fld.map fun p => (p.1, .dat p.2)⟩
inductive Rs (α : Type) where
  | ok (a : α)
  | ex (c : Ec)
def S (α : Type) : Type := Dk → Option (Rs α × Dk)
namespace S
variable {α β γ : Type}
def ret (a : α) : S α := fun k => some (.ok a, k)
def fail : S α := fun _ => none
def thr (c : Ec) : S α := fun k => some (.ex c, k)
def bind (m : S α) (f : α → S β) : S β := fun k => match m k with
  | some (.ok a, k') => f a k'
  | some (.ex c, k') => some (.ex c, k')
  | none => none
def lift (o : Option α) : S α := fun k => match o with
  | some a => some (.ok a, k)
  | none => none
def noEx (m : S α) : S α := fun k => match m k with
  | some (.ok a, k') => some (.ok a, k')
  | _ => none
theorem ret_bind (a : α) (f : α → S β) : (ret a).bind f = f a := by
  funext k
  rfl
theorem thr_bind (c : Ec) (f : α → S β) : (thr c).bind f = thr c := by
  funext k
  rfl
theorem lift_some (a : α) : lift (some a) = ret a := by
  funext k
  rfl
theorem noEx_ret (a : α) : noEx (ret a) = ret a := by
  funext k
  rfl
theorem bind_ret (m : S α) : m.bind ret = m := by
  funext k
  unfold bind
  split <;> rename_i h <;> rw [h] <;> rfl
theorem bind_assoc (m : S α) (f : α → S β) (g : β → S γ) : (m.bind f).bind g = m.bind fun a => (f a).bind g := by
  funext k
  unfold bind
  cases m k with
  | none => rfl
  | some x =>
    obtain ⟨r, k'⟩ := x
    cases r <;> rfl
theorem bind_inv {m : S α} {f : α → S β} {k k' : Dk} {r : Rs β} (h : m.bind f k = some (r, k')) :
    (∃ a k1, m k = some (.ok a, k1) ∧ f a k1 = some (r, k')) ∨ ∃ c, m k = some (.ex c, k') ∧ r = .ex c := by
  unfold bind at h
  split at h
  · rename_i a k1 e
    exact .inl ⟨a, k1, e, h⟩
  · rename_i c k1 e
    cases h
    exact .inr ⟨c, e, rfl⟩
  · cases h
def mapM (f : α → S β) : List α → S (List β)
  | [] => ret []
  | a :: as => (f a).bind fun b => (mapM f as).bind fun bs => ret (b :: bs)
def mapF (f : α → S (Option β)) : List α → S (List β)
  | [] => ret []
  | a :: as => (f a).bind fun o => (mapF f as).bind fun bs => ret (match o with | some b => b :: bs | none => bs)
def foldM {σ : Type} (f : σ → α → S σ) : List α → σ → S σ
  | [], s => ret s
  | a :: as, s => (f s a).bind fun s' => foldM f as s'
theorem mapM_ret {f : α → S β} {g : α → β} : ∀ {xs : List α}, (∀ x ∈ xs, f x = ret (g x)) → mapM f xs = ret (xs.map g)
  | [], _ => rfl
  | x :: xs, h => by
    unfold mapM
    rw [h x List.mem_cons_self, ret_bind, mapM_ret (xs := xs) fun y hy => h y (List.mem_cons_of_mem _ hy)]
    rfl
theorem mapF_ret {f : α → S (Option β)} {g : α → Option β} : ∀ {xs : List α}, (∀ x ∈ xs, f x = ret (g x)) → mapF f xs = ret (xs.filterMap g)
  | [], _ => rfl
  | x :: xs, h => by
    unfold mapF
    rw [h x List.mem_cons_self, ret_bind, mapF_ret (xs := xs) fun y hy => h y (List.mem_cons_of_mem _ hy), ret_bind, List.filterMap_cons]
    cases g x <;> rfl
theorem mapM_map {δ : Type} {f : α → S β} {g : δ → α} : ∀ {xs : List δ}, mapM f (xs.map g) = mapM (fun x => f (g x)) xs
  | [] => rfl
  | x :: xs => by
    rw [List.map_cons]
    unfold mapM
    rw [mapM_map (xs := xs)]
theorem mapF_map {δ : Type} {f : α → S (Option β)} {g : δ → α} : ∀ {xs : List δ}, mapF f (xs.map g) = mapF (fun x => f (g x)) xs
  | [] => rfl
  | x :: xs => by
    rw [List.map_cons]
    unfold mapF
    rw [mapF_map (xs := xs)]
/-- by an invariant that counts -/
theorem foldM_inv {σ : Type} {f : σ → α → S σ} (I : Nat → σ → Prop) : ∀ {xs : List α} {s : σ} {k : Nat}, I k s → (∀ (i : Nat) s x, I (k + i) s → xs[i]? = some x → ∃ s', f s x = ret s' ∧ I (k + i + 1) s') → ∃ s', foldM f xs s = ret s' ∧ I (k + xs.length) s'
  | [], s, k, h, _ => ⟨s, rfl, h⟩
  | x :: xs, s, k, h, st => by
    obtain ⟨s1, e, i⟩ := st 0 s x h rfl
    obtain ⟨s2, e2, i2⟩ := foldM_inv I (xs := xs) (s := s1) (k := k + 1) i fun i s y hs hy => by
      have a1 : k + 1 + i = k + (i + 1) := by omega
      rw [a1] at hs ⊢
      exact st (i + 1) s y hs (by simpa using hy)
    refine ⟨s2, ?_, ?_⟩
    · unfold foldM
      rw [e, ret_bind, e2]
    · rw [List.length_cons]
      have a1 : k + (xs.length + 1) = k + 1 + xs.length := by omega
      rw [a1]
      exact i2
end S
/-! ### slots -/
def dkI (k : Dk) : List Sv := match k.ce with
  | none => [.ref 0, svI k.n]
  | some c => [.dat (.list (c.map .int)), svI k.n, .ref 0]
def dkO (k : Dk) : Mu := [.lst (k.cs.map svI), .lst (dkI k)]
inductive Sk where
  | im (d : PyData)
  | mt (ds : List PyData)
  | dk
abbrev En := List (Option Sk)
def SkR (b : Nat) (μ : Mu) : Sk → Sv → Prop
  | .im d, s => s = .dat d
  | .mt ds, s => ∃ t, s = .ref t ∧ b ≤ t ∧ μ[t]? = some (.lst (ds.map Sv.dat))
  | .dk, s => s = .ref 1
structure EnvR (l : En) (k : Dk) (rest : Mu) (ρ : Rho) (μ : Mu) : Prop where
  pre : ∃ g, μ = dkO k ++ rest ++ g
  len : ρ.length = l.length
  at_ : ∀ (i : Nat) (x : Sk), l[i]? = some (some x) → ∃ s, ρ[i]? = some (some s) ∧ SkR (2 + rest.length) μ x s
  inj : ∀ (i j : Nat) (xs ys : List PyData) (t : Nat), l[i]? = some (some (.mt xs)) → l[j]? = some (some (.mt ys)) → ρ[i]? = some (some (.ref t)) → ρ[j]? = some (some (.ref t)) → i = j
/-- fewer slots are known -/
inductive Wkn : En → En → Prop
  | nil : Wkn [] []
  | drop {a : Option Sk} {l l' : En} (h : Wkn l l') : Wkn (a :: l) (none :: l')
  | keep {a : Option Sk} {l l' : En} (h : Wkn l l') : Wkn (a :: l) (a :: l')
theorem Wkn.len : ∀ {l l' : En}, Wkn l l' → l.length = l'.length
  | _, _, .nil => rfl
  | _, _, .drop h => by rw [List.length_cons, List.length_cons, h.len]
  | _, _, .keep h => by rw [List.length_cons, List.length_cons, h.len]
theorem Wkn.get : ∀ {l l' : En}, Wkn l l' → ∀ {i : Nat} {x : Sk}, l'[i]? = some (some x) → l[i]? = some (some x)
  | _, _, .nil, _, _, e => by simp at e
  | _, _, .drop h, 0, _, e => by simp at e
  | _, _, .drop h, i + 1, _, e => by
    rw [List.getElem?_cons_succ] at e ⊢
    exact h.get e
  | _, _, .keep h, 0, _, e => by simpa using e
  | _, _, .keep h, i + 1, _, e => by
    rw [List.getElem?_cons_succ] at e ⊢
    exact h.get e
theorem EnvR.weak {l l' : En} {k : Dk} {rest : Mu} {ρ : Rho} {μ : Mu} (h : EnvR l k rest ρ μ) (w : Wkn l l') : EnvR l' k rest ρ μ :=
  ⟨h.pre, by rw [h.len, w.len], fun i x e => h.at_ i x (w.get e), fun i j xs ys t e1 e2 => h.inj i j xs ys t (w.get e1) (w.get e2)⟩
theorem getE_set {α : Type} {l : List α} {i j : Nat} {x y : α} (h : (l.set i x)[j]? = some y) : (j = i ∧ y = x ∧ i < l.length) ∨ (j ≠ i ∧ l[j]? = some y) := by
  by_cases e : i = j
  · subst e
    have hl : i < l.length := by
      have := (List.getElem?_eq_some_iff.mp h).1
      simpa using this
    rw [List.getElem?_set_self hl] at h
    cases h
    exact .inl ⟨rfl, rfl, hl⟩
  · rw [List.getElem?_set_ne e] at h
    exact .inr ⟨fun z => e z.symm, h⟩
section
variable {l : En} {k : Dk} {rest : Mu} {ρ : Rho} {μ : Mu}
theorem EnvR.setI (h : EnvR l k rest ρ μ) (i : Nat) (d : PyData) : EnvR (l.set i (some (.im d))) k rest (ρ.set i (some (.dat d))) μ := by
  refine ⟨h.pre, by rw [List.length_set, List.length_set, h.len], fun j x e => ?_, fun a b xs ys t e1 e2 e3 e4 => ?_⟩
  · rcases getE_set e with ⟨rfl, e, hl⟩ | ⟨hj, e⟩
    · cases e
      exact ⟨_, List.getElem?_set_self (by rw [h.len]; exact hl), rfl⟩
    · obtain ⟨s, e1, e2⟩ := h.at_ j x e
      exact ⟨s, by rw [List.getElem?_set_ne fun z => hj z.symm]; exact e1, e2⟩
  · rcases getE_set e1 with ⟨_, z, _⟩ | ⟨ha, e1⟩
    · cases z
    rcases getE_set e2 with ⟨_, z, _⟩ | ⟨hb, e2⟩
    · cases z
    rw [List.getElem?_set_ne fun z => ha z.symm] at e3
    rw [List.getElem?_set_ne fun z => hb z.symm] at e4
    exact h.inj a b xs ys t e1 e2 e3 e4
theorem EnvR.unset {i : Nat} {d : PyData} (h : EnvR (l.set i (some (.im d))) k rest (ρ.set i (some (.dat d))) μ) (hi : l[i]? = some none) : EnvR l k rest ρ μ := by
  have ne : ∀ (j : Nat) (x : Sk), l[j]? = some (some x) → i ≠ j := fun j x e z => by
    subst z
    rw [hi] at e
    cases e
  refine ⟨h.pre, by have := h.len; rwa [List.length_set, List.length_set] at this, fun j x e => ?_, fun a b xs ys t e1 e2 e3 e4 => ?_⟩
  · have hj := ne j x e
    obtain ⟨s, e1, e2⟩ := h.at_ j x (by rw [List.getElem?_set_ne hj]; exact e)
    exact ⟨s, by rw [List.getElem?_set_ne hj] at e1; exact e1, e2⟩
  · have ha := ne a _ e1
    have hb := ne b _ e2
    exact h.inj a b xs ys t (by rw [List.getElem?_set_ne ha]; exact e1) (by rw [List.getElem?_set_ne hb]; exact e2) (by rw [List.getElem?_set_ne ha]; exact e3) (by rw [List.getElem?_set_ne hb]; exact e4)
/-- a new tagged list -/
theorem EnvR.more (h : EnvR l k rest ρ μ) (o : MObj) : EnvR l k rest ρ (μ ++ [o]) := by
  obtain ⟨g, hg⟩ := h.pre
  refine ⟨⟨g ++ [o], by rw [hg, List.append_assoc]⟩, h.len, fun i x e => ?_, h.inj⟩
  obtain ⟨s, e1, e2⟩ := h.at_ i x e
  refine ⟨s, e1, ?_⟩
  cases x with
  | im d => exact e2
  | dk => exact e2
  | mt ds =>
    obtain ⟨t, a, b, c⟩ := e2
    exact ⟨t, a, b, by rw [List.getElem?_append_left (List.getElem?_eq_some_iff.mp c).1]; exact c⟩
theorem EnvR.base (h : EnvR l k rest ρ μ) : 2 + rest.length ≤ μ.length := by
  obtain ⟨g, hg⟩ := h.pre
  rw [hg]
  simp [dkO]
  omega
theorem EnvR.setM (h : EnvR l k rest ρ μ) (i : Nat) (ds : List PyData) : EnvR (l.set i (some (.mt ds))) k rest (ρ.set i (some (.ref μ.length))) (μ ++ [.lst (ds.map Sv.dat)]) := by
  have h2 := h.more (.lst (ds.map Sv.dat))
  have old : ∀ (j : Nat) (xs : List PyData) (t : Nat), l[j]? = some (some (.mt xs)) → ρ[j]? = some (some (.ref t)) → t < μ.length := fun j xs t e1 e2 => by
    obtain ⟨s, a, t', b, c, d⟩ := h.at_ j _ e1
    rw [a] at e2
    cases e2
    cases b
    exact (List.getElem?_eq_some_iff.mp d).1
  refine ⟨h2.pre, by rw [List.length_set, List.length_set, h.len], fun j x e => ?_, fun a b xs ys t e1 e2 e3 e4 => ?_⟩
  · rcases getE_set e with ⟨rfl, e, hl⟩ | ⟨hj, e⟩
    · cases e
      refine ⟨_, List.getElem?_set_self (by rw [h.len]; exact hl), _, rfl, h.base, ?_⟩
      rw [List.getElem?_append_right (Nat.le_refl _), Nat.sub_self]
      rfl
    · obtain ⟨s, e1, e2⟩ := h2.at_ j x e
      exact ⟨s, by rw [List.getElem?_set_ne fun z => hj z.symm]; exact e1, e2⟩
  · rcases getE_set e1 with ⟨ha, z, hl⟩ | ⟨ha, q1⟩
    · rcases getE_set e2 with ⟨hb, z2, _⟩ | ⟨hb, q2⟩
      · rw [ha, hb]
      · subst ha
        rw [List.getElem?_set_self (by rw [h.len]; exact hl)] at e3
        rw [List.getElem?_set_ne fun z => hb z.symm] at e4
        cases e3
        exact absurd (old b ys _ q2 e4) (Nat.lt_irrefl _)
    · skip
      rw [List.getElem?_set_ne fun z => ha z.symm] at e3
      rcases getE_set e2 with ⟨hb, z2, hl⟩ | ⟨hb, q2⟩
      · subst hb
        rw [List.getElem?_set_self (by rw [h.len]; exact hl)] at e4
        cases e4
        exact absurd (old a xs _ q1 e3) (Nat.lt_irrefl _)
      · rw [List.getElem?_set_ne fun z => hb z.symm] at e4
        exact h.inj a b xs ys t q1 q2 e3 e4
/-- a tagged list of a slot is written -/
theorem EnvR.write (h : EnvR l k rest ρ μ) {i t : Nat} {xs : List PyData} (hi : l[i]? = some (some (.mt xs))) (hr : ρ[i]? = some (some (.ref t))) (ds : List PyData) : EnvR (l.set i (some (.mt ds))) k rest ρ (μ.set t (.lst (ds.map Sv.dat))) := by
  obtain ⟨s, a, t', b, c, d⟩ := h.at_ i _ hi
  rw [hr] at a
  cases a
  cases b
  have ht : t < μ.length := (List.getElem?_eq_some_iff.mp d).1
  refine ⟨?_, by rw [List.length_set, h.len], fun j x e => ?_, fun a b ys zs u e1 e2 e3 e4 => ?_⟩
  · obtain ⟨g, hg⟩ := h.pre
    have hb : (dkO k ++ rest).length ≤ t := by
      rw [List.length_append]
      exact c
    exact ⟨g.set (t - (dkO k ++ rest).length) (.lst (ds.map Sv.dat)), by rw [hg, List.set_append_right _ _ hb]⟩
  · rcases getE_set e with ⟨rfl, e, hl⟩ | ⟨hj, e⟩
    · cases e
      exact ⟨_, hr, _, rfl, c, List.getElem?_set_self ht⟩
    · obtain ⟨s, e1, e2⟩ := h.at_ j x e
      refine ⟨s, e1, ?_⟩
      cases x with
      | im d => exact e2
      | dk => exact e2
      | mt ds =>
        obtain ⟨u, z1, z2, z3⟩ := e2
        refine ⟨u, z1, z2, ?_⟩
        rw [List.getElem?_set_ne fun z => hj (h.inj j i _ _ u e hi (by rw [e1, z1]) (by rw [hr, z]))]
        exact z3
  · have up : ∀ (a : Nat) (ys : List PyData), (l.set i (some (.mt ds)))[a]? = some (some (.mt ys)) → ∃ zs, l[a]? = some (some (.mt zs)) := fun a ys e => by
      rcases getE_set e with ⟨rfl, _, _⟩ | ⟨_, e⟩
      · exact ⟨_, hi⟩
      · exact ⟨_, e⟩
    obtain ⟨_, e1⟩ := up a _ e1
    obtain ⟨_, e2⟩ := up b _ e2
    exact h.inj a b _ _ u e1 e2 e3 e4
/-- .. is frozen: the slot is forgotten -/
theorem EnvR.freeze (h : EnvR l k rest ρ μ) {i t : Nat} {xs : List PyData} (hi : l[i]? = some (some (.mt xs))) (hr : ρ[i]? = some (some (.ref t))) (o : MObj) : EnvR (l.set i none) k rest ρ (μ.set t o) := by
  have h2 := h.write hi hr []
  obtain ⟨s, a, t', b, c, d⟩ := h.at_ i _ hi
  rw [hr] at a
  cases a
  cases b
  have sub : ∀ (j : Nat) (x : Sk), (l.set i none)[j]? = some (some x) → j ≠ i ∧ l[j]? = some (some x) := fun j x e => by
    rcases getE_set e with ⟨_, z, _⟩ | ⟨hj, e⟩
    · cases z
    · exact ⟨hj, e⟩
  refine ⟨?_, by rw [List.length_set, h.len], fun j x e => ?_, fun a b ys zs u e1 e2 e3 e4 => h.inj a b _ _ u (sub a _ e1).2 (sub b _ e2).2 e3 e4⟩
  · obtain ⟨g, hg⟩ := h.pre
    have hb : (dkO k ++ rest).length ≤ t := by
      rw [List.length_append]
      exact c
    exact ⟨g.set (t - (dkO k ++ rest).length) o, by rw [hg, List.set_append_right _ _ hb]⟩
  · obtain ⟨hj, e⟩ := sub j x e
    obtain ⟨s, e1, e2⟩ := h.at_ j x e
    refine ⟨s, e1, ?_⟩
    cases x with
    | im d => exact e2
    | dk => exact e2
    | mt ds =>
      obtain ⟨u, z1, z2, z3⟩ := e2
      refine ⟨u, z1, z2, ?_⟩
      rw [List.getElem?_set_ne fun z => hj (h.inj j i _ _ u e hi (by rw [e1, z1]) (by rw [hr, z]))]
      exact z3
end
/-! ### the judgement -/
abbrev Post (α β : Type) := Dk → Mu → Rho → Mu → α → β → Prop
def Jl {α β : Type} (k : Dk) (rest : Mu) (ρ : Rho) (μ : Mu) (m : M α) (t : S β) (P : Post α β) : Prop := ∀ r k', t k = some (r, k') → match r with
  | .ok b => ∃ a μ', m μ = some (.ok a μ') ∧ P k' rest ρ μ' a b
  | .ex c => ∃ g, m μ = some (.ex c.up (dkO k' ++ rest ++ g))
def Jd {α β : Type} (l : En) (F : Rho → M α) (t : S β) (P : Post α β) : Prop := ∀ k rest ρ μ, EnvR l k rest ρ μ → Jl k rest ρ μ (F ρ) t P
section
variable {α β γ δ : Type} {k : Dk} {rest : Mu} {ρ : Rho} {μ : Mu}
theorem Jl.bind {m : M α} {f : α → M γ} {t : S β} {u : β → S δ} {P : Post α β} {Q : Post γ δ} (h : Jl k rest ρ μ m t P) (hk : ∀ k' μ' a b, P k' rest ρ μ' a b → Jl k' rest ρ μ' (f a) (u b) Q) : Jl k rest ρ μ (m.bind f) (t.bind u) Q := by
  intro r k' e
  rcases S.bind_inv e with ⟨b, k1, e1, e2⟩ | ⟨c, e1, rfl⟩
  · obtain ⟨a, μ1, h1, h2⟩ := h _ _ e1
    have := hk k1 μ1 a b h2 r k' e2
    rw [bind_ok h1]
    exact this
  · obtain ⟨g, h1⟩ := h _ _ e1
    exact ⟨g, bind_ex h1⟩
theorem Jl.ret {a : α} {b : β} {P : Post α β} (h : P k rest ρ μ a b) : Jl k rest ρ μ (M.ret a) (S.ret b) P := by
  intro r k' e
  cases e
  exact ⟨a, μ, rfl, h⟩
theorem Jl.lift {m : M α} {o : Option β} {P : Post α β} (h : ∀ b, o = some b → ∃ a μ', m μ = some (.ok a μ') ∧ P k rest ρ μ' a b) : Jl k rest ρ μ m (S.lift o) P := by
  intro r k' e
  unfold S.lift at e
  cases o with
  | none => cases e
  | some b =>
    cases e
    exact h b rfl
/-- the second reading goes on without a step of the first one -/
theorem Jl.pre {m : M γ} {o : Option β} {u : β → S δ} {Q : Post γ δ} (h : ∀ b, o = some b → Jl k rest ρ μ m (u b) Q) : Jl k rest ρ μ m ((S.lift o).bind u) Q := by
  intro r k' e
  cases o with
  | none => cases e
  | some b => exact h b rfl r k' e
theorem Jl.weak {m : M α} {t : S β} {P Q : Post α β} (h : Jl k rest ρ μ m t P) (w : ∀ k' μ' a b, P k' rest ρ μ' a b → Q k' rest ρ μ' a b) : Jl k rest ρ μ m t Q := by
  intro r k' e
  have := h r k' e
  cases r with
  | ok b =>
    obtain ⟨a, μ', h1, h2⟩ := this
    exact ⟨a, μ', h1, w _ _ _ _ h2⟩
  | ex c => exact this
theorem Jl.eqM {m m' : M α} {t : S β} {P : Post α β} (h : Jl k rest ρ μ m t P) (e : m' = m) : Jl k rest ρ μ m' t P := e ▸ h
theorem M.bind_ret (m : M α) : m.bind M.ret = m := by
  funext μ
  exact set_at
theorem M.assoc (m : M α) (f : α → M β) (g : β → M γ) : (m.bind f).bind g = m.bind fun a => (f a).bind g := by
  funext μ
  unfold M.bind
  cases m μ with
  | none => rfl
  | some x => cases x <;> rfl
end
/-- what is read: data, or a tagged list of data -/
def Rdr (μ : Mu) (s : Sv) (d : PyData) : Prop := s = .dat d ∨ ∃ t ds, s = .ref t ∧ μ[t]? = some (.lst (ds.map Sv.dat)) ∧ d = .list ds
theorem Rdr.dat {μ : Mu} {d : PyData} : Rdr μ (.dat d) d := .inl rfl
theorem Rdr.rd {μ : Mu} {s : Sv} {d : PyData} (h : Rdr μ s d) : rd s μ = some (.ok d μ) := by
  rcases h with rfl | ⟨t, ds, rfl, e, rfl⟩
  · rfl
  · unfold Pf.rd
    simp only [e, dats_map]
    rfl
theorem Rdr.ls {μ : Mu} {s : Sv} {ds : List PyData} (h : Rdr μ s (.list ds)) : lsOf s μ = some (.ok (ds.map Sv.dat) μ) := by
  rcases h with rfl | ⟨t, ds', rfl, e, z⟩
  · rfl
  · cases z
    unfold lsOf
    simp only [e]
theorem Rdr.imm {μ : Mu} {s : Sv} {d : PyData} (h : Rdr μ s d) (hd : ∀ ds, d ≠ .list ds) : s = .dat d := by
  rcases h with rfl | ⟨t, ds, rfl, e, rfl⟩
  · rfl
  · exact absurd rfl (hd ds)
end Pf

namespace Pf
open PySem PySem.Spec PyProof.Rows L2
/-! ### expressions -/
section
variable {l l1 l2 l3 : En} {Fa Fb Fc : Rho → M Sv} {ta tb tc : S PyData}
abbrev pV (l : En) : Post Sv PyData := fun k rest ρ μ a d => a = .dat d ∧ EnvR l k rest ρ μ
abbrev pW (l : En) : Post Sv PyData := fun k rest ρ μ a d => Rdr μ a d ∧ EnvR l k rest ρ μ
abbrev pB (l : En) : Post Bool Bool := fun k rest ρ μ a d => a = d ∧ EnvR l k rest ρ μ
abbrev pA (n : Nat) (l : En) : Post (List Sv) (List PyData) := fun k rest ρ μ a d => a = d.map Sv.dat ∧ d.length = n ∧ EnvR l k rest ρ μ
abbrev pL (l : En) : Post (List PyData) (List PyData) := fun k rest ρ μ a d => a = d ∧ EnvR l k rest ρ μ
theorem e_w {t : S PyData} (h : Jd l Fa t (pV l1)) : Jd l Fa t (pW l1) := fun k rest ρ μ e => (h k rest ρ μ e).weak fun _ _ _ _ ⟨z, q⟩ => ⟨z ▸ .dat, q⟩
theorem e_slot (i : Nat) {d : PyData} (h : l[i]? = some (some (.im d))) : Jd l (slot i) (S.ret d) (pV l) := fun k rest ρ μ e => by
  obtain ⟨s, h1, h2⟩ := e.at_ i _ h
  cases h2
  intro r k' q
  cases q
  refine ⟨_, μ, ?_, rfl, e⟩
  unfold slot
  rw [h1]
  rfl
theorem slot_at {i : Nat} {ρ : Rho} {s : Sv} (μ : Mu) (h : ρ[i]? = some (some s)) : slot i ρ μ = some (.ok s μ) := by
  unfold slot
  rw [h]
  rfl
theorem e_slotW (i : Nat) {ds : List PyData} (h : l[i]? = some (some (.mt ds))) : Jd l (slot i) (S.ret (.list ds)) (pW l) := fun k rest ρ μ e => by
  obtain ⟨s, h1, t, rfl, h3, h4⟩ := e.at_ i _ h
  intro r k' q
  cases q
  exact ⟨_, μ, slot_at μ h1, .inr ⟨t, ds, rfl, h4, rfl⟩, e⟩
theorem e_frz (i : Nat) {ds : List PyData} (h : l[i]? = some (some (.mt ds))) : Jd l (frzV (slot i)) (S.ret (.list ds)) (pV (l.set i none)) := fun k rest ρ μ e => by
  obtain ⟨s, h1, t, rfl, h3, h4⟩ := e.at_ i _ h
  intro r k' q
  cases q
  refine ⟨.dat (.list ds), μ.set t .gone, ?_, rfl, e.freeze h h1 _⟩
  unfold frzV
  rw [bind_ok (slot_at μ h1)]
  unfold frz
  simp only [h4, dats_map]
  rfl
theorem e_con (d : PyData) : Jd l (con d) (S.ret d) (pV l) := fun k rest ρ μ e => Jl.ret ⟨rfl, e⟩
/-! operators -/
def Op2 (op : Sv → Sv → M Sv) (o : PyData → PyData → Option PyData) : Prop := ∀ a b da db d μ, Rdr μ a da → Rdr μ b db → o da db = some d → op a b μ = some (.ok (.dat d) μ)
def OpB (op : Sv → Sv → M Sv) (c : PyData → PyData → Option Bool) : Prop := ∀ a b da db d μ, Rdr μ a da → Rdr μ b db → c da db = some d → op a b μ = some (.ok (.dat (.bool d)) μ)
variable {op op' : Sv → Sv → M Sv} {o : PyData → PyData → Option PyData} {c c' : PyData → PyData → Option Bool}
def asB2 (f : Option Bool) : Option PyData := f.map PyData.bool
theorem OpB.val (h : OpB op c) : Op2 op fun a b => asB2 (c a b) := fun a b da db d μ ra rb e => by
  cases q : c da db with
  | none =>
    simp only [asB2, q] at e
    cases e
  | some z =>
    simp only [asB2, q] at e
    cases e
    exact h a b da db z μ ra rb q
theorem e_bin (ho : Op2 op o) (ha : Jd l Fa ta (pV l1)) (hb : Jd l1 Fb tb (pW l2)) : Jd l (bin op Fa Fb) (ta.bind fun a => tb.bind fun b => S.lift (o a b)) (pV l2) := fun k rest ρ μ e => by
  refine (ha k rest ρ μ e).bind fun k1 μ1 a da ⟨z, e1⟩ => ?_
  subst z
  refine (hb k1 rest ρ μ1 e1).bind fun k2 μ2 b db ⟨rb, e2⟩ => ?_
  exact Jl.lift fun d q => ⟨_, μ2, ho _ _ da db d μ2 .dat rb q, rfl, e2⟩
theorem e_binB (ho : OpB op c) (ha : Jd l Fa ta (pV l1)) (hb : Jd l1 Fb tb (pW l2)) : Jd l (bin op Fa Fb) (ta.bind fun a => tb.bind fun b => S.lift (asB2 (c a b))) (pV l2) := e_bin ho.val ha hb
theorem u_bin (ho : OpB op c) (ha : Jd l Fa ta (pV l1)) (hb : Jd l1 Fb tb (pW l2)) : Jd l (tst (bin op Fa Fb)) (ta.bind fun a => tb.bind fun b => S.lift (c a b)) (pB l2) := fun k rest ρ μ e => by
  refine Jl.eqM (m := (Fa ρ).bind fun a => (Fb ρ).bind fun b => (op a b).bind asB) ((ha k rest ρ μ e).bind fun k1 μ1 a da ⟨z, e1⟩ => ?_) ?_
  · subst z
    refine (hb k1 rest ρ μ1 e1).bind fun k2 μ2 b db ⟨rb, e2⟩ => ?_
    refine Jl.lift fun d q => ⟨d, μ2, ?_, rfl, e2⟩
    rw [bind_ok (ho _ _ da db d μ2 .dat rb q)]
    rfl
  · unfold tst bin
    rw [M.assoc]
    congr 1
    funext a
    rw [M.assoc]
def bAnd (a : Bool) (t : S Bool) : S Bool := if a = true then t else S.ret false
def bOr (a : Bool) (t : S Bool) : S Bool := if a = true then S.ret true else t
theorem Jl.ite {α β : Type} {k : Dk} {rest : Mu} {ρ : Rho} {μ : Mu} {c : Bool} {m m' : M α} {t t' : S β} {P : Post α β} (h1 : Jl k rest ρ μ m t P) (h2 : Jl k rest ρ μ m' t' P) : Jl k rest ρ μ (if c = true then m else m') (if c = true then t else t') P := by
  cases c with
  | false =>
    rw [if_neg Bool.false_ne_true, if_neg Bool.false_ne_true]
    exact h2
  | true =>
    rw [if_pos rfl, if_pos rfl]
    exact h1
theorem u_and {F G : Rho → M Bool} {t u : S Bool} (h : Jd l F t (pB l1)) (h2 : Jd l1 G u (pB l1)) : Jd l (andT F G) (t.bind fun a => bAnd a u) (pB l1) := fun k rest ρ μ e => by
  refine (h k rest ρ μ e).bind fun k1 μ1 a da ⟨z, e1⟩ => ?_
  subst z
  exact Jl.ite (h2 k1 rest ρ μ1 e1) (Jl.ret ⟨rfl, e1⟩)
theorem u_or {F G : Rho → M Bool} {t u : S Bool} (h : Jd l F t (pB l1)) (h2 : Jd l1 G u (pB l1)) : Jd l (orT F G) (t.bind fun a => bOr a u) (pB l1) := fun k rest ρ μ e => by
  refine (h k rest ρ μ e).bind fun k1 μ1 a da ⟨z, e1⟩ => ?_
  subst z
  exact Jl.ite (Jl.ret ⟨rfl, e1⟩) (h2 k1 rest ρ μ1 e1)
theorem u_not {F : Rho → M Bool} {t : S Bool} (h : Jd l F t (pB l1)) : Jd l (notT F) (t.bind fun a => S.ret (!a)) (pB l1) := fun k rest ρ μ e => by
  refine (h k rest ρ μ e).bind fun k1 μ1 a da ⟨z, e1⟩ => ?_
  subst z
  exact Jl.ret ⟨rfl, e1⟩
def toB : PyData → Option Bool
  | .bool b => some b
  | _ => none
theorem u_val (h : Jd l Fa ta (pV l1)) : Jd l (tst Fa) (ta.bind fun a => S.lift (toB a)) (pB l1) := fun k rest ρ μ e => by
  refine (h k rest ρ μ e).bind fun k1 μ1 a da ⟨z, e1⟩ => ?_
  subst z
  refine Jl.lift fun b q => ?_
  cases da <;> cases q
  exact ⟨_, μ1, rfl, rfl, e1⟩
def dAnd (a : Bool) (t : S PyData) : S PyData := if a = true then t else S.ret (.bool false)
theorem e_and (h : Jd l Fa ta (pV l1)) (h2 : Jd l1 Fb tb (pV l1)) : Jd l (andV Fa Fb) (ta.bind fun a => (S.lift (toB a)).bind fun z => dAnd z tb) (pV l1) := fun k rest ρ μ e => by
  refine (h k rest ρ μ e).bind fun k1 μ1 a da ⟨z, e1⟩ => ?_
  subst z
  refine Jl.pre fun b q => ?_
  cases da <;> cases q
  exact Jl.ite (h2 k1 rest ρ μ1 e1) (Jl.ret ⟨rfl, e1⟩)
/-! displays, calls -/
theorem a_nil' : Jd l argN (S.ret []) (pA 0 l) := fun k rest ρ μ e => Jl.ret ⟨rfl, rfl, e⟩
theorem a_cons' {Fs : Rho → M (List Sv)} {ts : S (List PyData)} {n : Nat} (h : Jd l Fa ta (pV l1)) (h2 : Jd l1 Fs ts (pA n l2)) : Jd l (argC Fa Fs) (ta.bind fun a => ts.bind fun as => S.ret (a :: as)) (pA (n + 1) l2) := fun k rest ρ μ e => by
  refine (h k rest ρ μ e).bind fun k1 μ1 a da ⟨z, e1⟩ => ?_
  subst z
  refine (h2 k1 rest ρ μ1 e1).bind fun k2 μ2 as ds ⟨z, hn, e2⟩ => ?_
  subst z
  exact Jl.ret ⟨rfl, by rw [List.length_cons, hn], e2⟩
theorem e_tup {Fs : Rho → M (List Sv)} {ts : S (List PyData)} {n : Nat} (h : Jd l Fs ts (pA n l1)) (hn : szOk n = true := by rfl) : Jd l (tupV Fs) (ts.bind fun as => S.ret (.tuple as)) (pV l1) := fun k rest ρ μ e => by
  refine (h k rest ρ μ e).bind fun k1 μ1 as ds ⟨z, hl, e1⟩ => ?_
  subst z
  intro r k' q
  cases q
  refine ⟨_, μ1, ?_, rfl, e1⟩
  rw [List.length_map, hl, if_pos hn]
  unfold mkt
  rw [dats_map]
  rfl
theorem e_lst {Fs : Rho → M (List Sv)} {ts : S (List PyData)} {n : Nat} (h : Jd l Fs ts (pA n l1)) (hn : szOk n = true := by rfl) : Jd l (lstV false Fs) (ts.bind fun as => S.ret (.list as)) (pV l1) := fun k rest ρ μ e => by
  refine (h k rest ρ μ e).bind fun k1 μ1 as ds ⟨z, hl, e1⟩ => ?_
  subst z
  intro r k' q
  cases q
  refine ⟨_, μ1, ?_, rfl, e1⟩
  rw [List.length_map, hl, if_pos hn]
  exact mkl_dat ds μ1
def Bl1 (op : List Sv → M Sv) (o : PyData → Option PyData) : Prop := ∀ a da d μ, Rdr μ a da → o da = some d → op [a] μ = some (.ok (.dat d) μ)
def Bl2 (op : List Sv → M Sv) (o : PyData → PyData → Option PyData) : Prop := ∀ da db d μ, o da db = some d → op [.dat da, .dat db] μ = some (.ok (.dat d) μ)
theorem e_bl1 {op : List Sv → M Sv} {o : PyData → Option PyData} (ho : Bl1 op o) (ha : Jd l Fa ta (pW l1)) : Jd l (callV op (argC Fa argN)) (ta.bind fun a => S.lift (o a)) (pV l1) := fun k rest ρ μ e => by
  refine Jl.eqM (m := (Fa ρ).bind fun a => op [a]) ((ha k rest ρ μ e).bind fun k1 μ1 a da ⟨ra, e1⟩ => ?_) ?_
  · exact Jl.lift fun d q => ⟨_, μ1, ho a da d μ1 ra q, rfl, e1⟩
  · unfold callV argC
    rw [M.assoc]
    rfl
theorem e_bl2 {op : List Sv → M Sv} {o : PyData → PyData → Option PyData} (ho : Bl2 op o) (ha : Jd l Fa ta (pV l1)) (hb : Jd l1 Fb tb (pV l2)) : Jd l (callV op (argC Fa (argC Fb argN))) (ta.bind fun a => tb.bind fun b => S.lift (o a b)) (pV l2) := fun k rest ρ μ e => by
  refine Jl.eqM (m := (Fa ρ).bind fun a => (Fb ρ).bind fun b => op [a, b]) ((ha k rest ρ μ e).bind fun k1 μ1 a da ⟨ra, e1⟩ => ?_) ?_
  · subst ra
    refine (hb k1 rest ρ μ1 e1).bind fun k2 μ2 b db ⟨rb, e2⟩ => ?_
    subst rb
    exact Jl.lift fun d q => ⟨_, μ2, ho da db d μ2 q, rfl, e2⟩
  · unfold callV argC
    rw [M.assoc]
    congr 1
    funext a
    rw [M.assoc, M.assoc]
    rfl
end
end Pf

namespace Pf
open PySem PySem.Spec PyProof.Rows L2
/-! ### targets -/
section
variable {l l1 l2 : En} {Fa Fb Fc : Rho → M Sv} {ta tb tc : S PyData} {σ τ : Type}
abbrev pT (e : σ → En) : Post Rho σ := fun k rest _ μ ρ' s => EnvR (e s) k rest ρ' μ
/-- .. of a comprehension: what was known before can be known again -/
abbrev pTc (l : En) (e : σ → En) : Post Rho σ := fun k rest ρ μ ρ' s => EnvR (e s) k rest ρ' μ ∧ ∀ k2 μ2, EnvR (e s) k2 rest ρ' μ2 → EnvR l k2 rest ρ μ2
def un2 : PyData → Option (PyData × PyData)
  | .tuple [a, b] => some (a, b)
  | _ => none
theorem un2_some {d : PyData} {p : PyData × PyData} (h : un2 d = some p) : d = .tuple [p.1, p.2] := by
  unfold un2 at h
  split at h
  · cases h
    rfl
  · cases h
theorem tg_nm (i : Nat) (d : PyData) : Jd l (gNm i (.dat d)) (S.ret d) (pT fun d => l.set i (some (.im d))) := fun k rest ρ μ e => Jl.ret (e.setI i d)
theorem tc_nm (i : Nat) (d : PyData) (h : l[i]? = some none) : Jd l (gNm i (.dat d)) (S.ret d) (pTc l fun d => l.set i (some (.im d))) := fun k rest ρ μ e => Jl.ret ⟨e.setI i d, fun _ _ q => q.unset h⟩
theorem tg_tp2 {T1 T2 : Sv → Rho → M Rho} {u1 : PyData → S σ} {u2 : PyData → S τ} {e1 : σ → En} {e2 : σ → τ → En} (d : PyData) (h1 : ∀ a, Jd l (T1 (.dat a)) (u1 a) (pT e1)) (h2 : ∀ s b, Jd (e1 s) (T2 (.dat b)) (u2 b) (pT (e2 s))) :
    Jd l (gTp 2 (gsCons T1 (gsCons T2 gsNil)) (.dat d)) ((S.lift (un2 d)).bind fun p => (u1 p.1).bind fun s => (u2 p.2).bind fun s' => S.ret (s, s')) (pT fun s => e2 s.1 s.2) := fun k rest ρ μ e => Jl.pre fun p q => by
  rw [un2_some q]
  refine Jl.eqM (m := (T1 (.dat p.1) ρ).bind fun ρ' => T2 (.dat p.2) ρ') ((h1 p.1 k rest ρ μ e).bind fun k1 μ1 ρ1 s r1 => ?_) ?_
  · have := h2 s p.2 k1 rest ρ1 μ1 r1
    intro r k' z
    rcases S.bind_inv z with ⟨s', k2, z1, z2⟩ | ⟨c, z1, rfl⟩
    · cases z2
      obtain ⟨a, μ', w1, w2⟩ := this _ _ z1
      exact ⟨a, μ', w1, w2⟩
    · exact this _ _ z1
  · show M.bind _ _ = _
    congr 1
    funext ρ'
    exact M.bind_ret _
theorem tc_tp2 {T1 T2 : Sv → Rho → M Rho} {u1 : PyData → S σ} {u2 : PyData → S τ} {e1 : σ → En} {e2 : σ → τ → En} (d : PyData) (h1 : ∀ a, Jd l (T1 (.dat a)) (u1 a) (pTc l e1)) (h2 : ∀ s b, Jd (e1 s) (T2 (.dat b)) (u2 b) (pTc (e1 s) (e2 s))) :
    Jd l (gTp 2 (gsCons T1 (gsCons T2 gsNil)) (.dat d)) ((S.lift (un2 d)).bind fun p => (u1 p.1).bind fun s => (u2 p.2).bind fun s' => S.ret (s, s')) (pTc l fun s => e2 s.1 s.2) := fun k rest ρ μ e => Jl.pre fun p q => by
  rw [un2_some q]
  refine Jl.eqM (m := (T1 (.dat p.1) ρ).bind fun ρ' => T2 (.dat p.2) ρ') ((h1 p.1 k rest ρ μ e).bind fun k1 μ1 ρ1 s r1 => ?_) ?_
  · have := h2 s p.2 k1 rest ρ1 μ1 r1.1
    intro r k' z
    rcases S.bind_inv z with ⟨s', k2, z1, z2⟩ | ⟨c, z1, rfl⟩
    · cases z2
      obtain ⟨a, μ', w1, w2⟩ := this _ _ z1
      exact ⟨a, μ', w1, w2.1, fun k2 μ2 h => r1.2 k2 μ2 (w2.2 k2 μ2 h)⟩
    · exact this _ _ z1
  · show M.bind _ _ = _
    congr 1
    funext ρ'
    exact M.bind_ret _
def stI (ds : List PyData) (i d : PyData) : Option (List PyData) := match i with
  | .int i => (ixN ds.length i).map fun j => ds.set j d
  | _ => none
theorem tg_st (i : Nat) (d : PyData) {ds0 ds : List PyData} {Fk : Rho → M Sv} {tk : S PyData} (hi : l[i]? = some (some (.mt ds0))) (hk : Jd l Fk tk (pV l1)) (hj : l1[i]? = some (some (.mt ds))) :
    Jd l (gSt (slot i) Fk (.dat d)) (tk.bind fun x => S.lift (stI ds x d)) (pT fun ds' => l1.set i (some (.mt ds'))) := fun k rest ρ μ e => by
  obtain ⟨s, h1, t, rfl, h3, h4⟩ := e.at_ i _ hi
  intro r k' q
  unfold gSt
  rw [bind_ok (slot_at μ h1)]
  refine ((hk k rest ρ μ e).bind fun k2 μ2 b db ⟨rb, e2⟩ => ?_) r k' q
  subst rb
  obtain ⟨s', h1', t', rfl, h3', h4'⟩ := e2.at_ i _ hj
  rw [h1] at h1'
  cases h1'
  refine Jl.lift fun ds' q => ?_
  unfold stI at q
  cases db with
  | int x =>
    dsimp only at q
    cases qx : ixN ds.length x with
    | none =>
      rw [qx] at q
      cases q
    | some j =>
      rw [qx] at q
      cases q
      refine ⟨ρ, μ2.set t (.lst ((ds.set j d).map Sv.dat)), ?_, e2.write hj h1 _⟩
      have tg : tagOf (.ref t) μ2 = some (.ok (t, ds.map Sv.dat) μ2) := by
        unfold tagOf
        simp only [h4']
      show M.bind (M.ret x) _ μ2 = _
      rw [bind_ok (show M.ret x μ2 = some (.ok x μ2) from rfl), bind_ok tg]
      dsimp only
      rw [List.length_map, qx]
      rw [List.map_set]
      rfl
  | _ => cases q
/-! ### statements that go on -/
abbrev pN (e : σ → En) : Post Out σ := fun k rest _ μ a s => ∃ ρ', a = .nx ρ' ∧ EnvR (e s) k rest ρ' μ
abbrev based (k : Dk) (rest μ : Mu) : Prop := ∃ g, μ = dkO k ++ rest ++ g
abbrev pR : Post Out PyData := fun k rest _ μ a d => a = .rt (.dat d) ∧ based k rest μ
abbrev pE : Post Out PyData := fun k rest _ μ a d => (a = .rt (.dat d) ∨ ∃ ρ', a = .nx ρ' ∧ d = .none) ∧ based k rest μ
abbrev pM (l : En) : Post Sv (List PyData) := fun k rest ρ μ a ds => ∃ μ0, a = .ref μ0.length ∧ μ = μ0 ++ [.lst (ds.map Sv.dat)] ∧ EnvR l k rest ρ μ0
theorem Jl.same {α β : Type} {k : Dk} {rest : Mu} {ρ : Rho} {μ : Mu} {m : M α} {t : S β} {P : Post α β} (h : Jl k rest ρ μ m (t.bind S.ret) P) : Jl k rest ρ μ m t P := by
  rw [S.bind_ret] at h
  exact h
theorem s_setI (i : Nat) (h : Jd l Fa ta (pV l1)) : Jd l (gSet i Fa) ta (pN fun d => l1.set i (some (.im d))) := fun k rest ρ μ e => Jl.same <| by
  refine (h k rest ρ μ e).bind fun k1 μ1 a da ⟨z, e1⟩ => ?_
  subst z
  exact Jl.ret ⟨_, rfl, e1.setI i da⟩
theorem s_setM (i : Nat) {t : S (List PyData)} (h : Jd l Fa t (pM l1)) : Jd l (gSet i Fa) t (pN fun ds => l1.set i (some (.mt ds))) := fun k rest ρ μ e => Jl.same <| by
  refine (h k rest ρ μ e).bind fun k1 μ1 a ds ⟨μ0, z, z2, e1⟩ => ?_
  subst z z2
  exact Jl.ret ⟨_, rfl, e1.setM i ds⟩
theorem m_lst {Fs : Rho → M (List Sv)} {ts : S (List PyData)} {n : Nat} (h : Jd l Fs ts (pA n l1)) (hn : szOk n = true := by rfl) : Jd l (lstV true Fs) ts (pM l1) := fun k rest ρ μ e => Jl.same <| by
  refine (h k rest ρ μ e).bind fun k1 μ1 as ds ⟨z, hl, e1⟩ => ?_
  subst z
  intro r k' q
  cases q
  refine ⟨.ref μ1.length, μ1 ++ [.lst (ds.map Sv.dat)], ?_, μ1, rfl, rfl, e1⟩
  rw [List.length_map, hl, if_pos hn]
  rfl
theorem s_par' (i j : Nat) (ha : Jd l Fa ta (pV l1)) (hb : Jd l1 Fb tb (pV l2)) : Jd l (gPar i j (argC Fa (argC Fb argN))) (ta.bind fun a => tb.bind fun b => S.ret (a, b)) (pN fun p => (l2.set i (some (.im p.1))).set j (some (.im p.2))) := fun k rest ρ μ e => by
  refine Jl.eqM (m := (Fa ρ).bind fun a => (Fb ρ).bind fun b => M.ret (.nx ((ρ.set i (some a)).set j (some b)))) ((ha k rest ρ μ e).bind fun k1 μ1 a da ⟨ra, e1⟩ => ?_) ?_
  · subst ra
    refine (hb k1 rest ρ μ1 e1).bind fun k2 μ2 b db ⟨rb, e2⟩ => ?_
    subst rb
    exact Jl.ret ⟨_, rfl, (e2.setI i da).setI j db⟩
  · unfold gPar argC
    rw [M.assoc]
    congr 1
    funext a
    rw [M.assoc, M.assoc]
    rfl
theorem s_par3M (i j m : Nat) {t : S (List PyData)} (ha : Jd l Fa ta (pV l1)) (hb : Jd l1 Fb tb (pV l2)) {l3 : En} (hc : Jd l2 Fc t (pM l3)) : Jd l (gPar3 i j m (argC Fa (argC Fb (argC Fc argN)))) (ta.bind fun a => tb.bind fun b => t.bind fun c => S.ret (a, b, c)) (pN fun p => ((l3.set i (some (.im p.1))).set j (some (.im p.2.1))).set m (some (.mt p.2.2))) := fun k rest ρ μ e => by
  refine Jl.eqM (m := (Fa ρ).bind fun a => (Fb ρ).bind fun b => (Fc ρ).bind fun c => M.ret (.nx (((ρ.set i (some a)).set j (some b)).set m (some c)))) ((ha k rest ρ μ e).bind fun k1 μ1 a da ⟨ra, e1⟩ => ?_) ?_
  · subst ra
    refine (hb k1 rest ρ μ1 e1).bind fun k2 μ2 b db ⟨rb, e2⟩ => ?_
    subst rb
    refine (hc k2 rest ρ μ2 e2).bind fun k3 μ3 c dc ⟨μ0, z, z2, e3⟩ => ?_
    subst z z2
    exact Jl.ret ⟨_, rfl, ((e3.setI i da).setI j db).setM m dc⟩
  · unfold gPar3 argC
    rw [M.assoc]
    congr 1
    funext a
    rw [M.assoc, M.assoc]
    congr 1
    funext b
    rw [M.assoc, M.assoc]
    rfl
theorem s_asg' {T : Sv → Rho → M Rho} {u : PyData → S σ} {e' : σ → En} (h : Jd l Fa ta (pV l1)) (hT : ∀ d, Jd l1 (T (.dat d)) (u d) (pT e')) : Jd l (gAsg Fa T) (ta.bind u) (pN e') := fun k rest ρ μ e => by
  refine (h k rest ρ μ e).bind fun k1 μ1 a da ⟨z, e1⟩ => Jl.same ?_
  subst z
  refine (hT da k1 rest ρ μ1 e1).bind fun k2 μ2 ρ2 s e2 => ?_
  exact Jl.ret ⟨_, rfl, e2⟩
theorem s_expr' (h : Jd l Fa ta (pV l1)) : Jd l (gExpr Fa) ta (pN fun _ => l1) := fun k rest ρ μ e => Jl.same <| by
  refine (h k rest ρ μ e).bind fun k1 μ1 a da ⟨z, e1⟩ => ?_
  exact Jl.ret ⟨_, rfl, e1⟩
def appD (ds : List PyData) (d : PyData) : Option (List PyData) := if ds.length + 1 ≤ 1000000 then some (ds ++ [d]) else none
theorem s_app (i : Nat) {ds0 ds : List PyData} (hi : l[i]? = some (some (.mt ds0))) (hb : Jd l Fb tb (pV l1)) (hj : l1[i]? = some (some (.mt ds))) : Jd l (gExpr (appV (slot i) Fb)) (tb.bind fun d => S.lift (appD ds d)) (pN fun ds' => l1.set i (some (.mt ds'))) := fun k rest ρ μ e => by
  obtain ⟨s, h1, t, rfl, h3, h4⟩ := e.at_ i _ hi
  have tg : ∀ {μ2 : Mu} {xs : List PyData}, μ2[t]? = some (.lst (xs.map Sv.dat)) → tagOf (.ref t) μ2 = some (.ok (t, xs.map Sv.dat) μ2) := fun {μ2 xs} h4 => by
    unfold tagOf
    simp only [h4]
  intro r k' q
  have z : gExpr (appV (slot i) Fb) ρ μ = ((Fb ρ).bind fun x => ((tagOf (.ref t)).bind fun z => if szOk (z.2.length + 1) = true then (wrt z.1 (z.2 ++ [x])).bind fun _ => M.ret (Sv.dat .none) else M.fail).bind fun _ => M.ret (.nx ρ)) μ := by
    unfold gExpr appV
    rw [M.assoc, bind_ok (slot_at μ h1), M.assoc, bind_ok (tg h4), M.assoc]
  have main : Jl k rest ρ μ ((Fb ρ).bind fun x => ((tagOf (.ref t)).bind fun z => if szOk (z.2.length + 1) = true then (wrt z.1 (z.2 ++ [x])).bind fun _ => M.ret (Sv.dat .none) else M.fail).bind fun _ => M.ret (.nx ρ)) (tb.bind fun d => S.lift (appD ds d)) (pN fun ds' => l1.set i (some (.mt ds'))) := by
    refine (hb k rest ρ μ e).bind fun k2 μ2 b db ⟨rb, e2⟩ => ?_
    subst rb
    obtain ⟨s', h1', t', rfl, h3', h4'⟩ := e2.at_ i _ hj
    rw [h1] at h1'
    cases h1'
    refine Jl.lift fun ds' q => ?_
    unfold appD at q
    split at q
    · rename_i hsz
      cases q
      refine ⟨.nx ρ, μ2.set t (.lst ((ds ++ [db]).map Sv.dat)), ?_, ρ, rfl, e2.write hj h1 _⟩
      have sz : szOk ((ds.map Sv.dat).length + 1) = true := decide_eq_true (by rw [List.length_map]; exact hsz)
      rw [M.assoc, bind_ok (tg h4')]
      dsimp only
      rw [if_pos sz, List.map_append]
      rfl
    · cases q
  have := main r k' q
  rw [z]
  exact this
/-! ### blocks -/
theorem n_end {G : Rho → M Out} {t : S σ} {e : σ → En} {e' : τ → En} (f : σ → τ) (h : Jd l G t (pN e)) (w : ∀ s, Wkn (e s) (e' (f s))) : Jd l G (t.bind fun s => S.ret (f s)) (pN e') := fun k rest ρ μ q r k' z => by
  rcases S.bind_inv z with ⟨s, k1, z1, z2⟩ | ⟨c, z1, rfl⟩
  · cases z2
    obtain ⟨a, μ', w1, ρ', w2, w3⟩ := h k rest ρ μ q _ _ z1
    exact ⟨a, μ', w1, ρ', w2, w3.weak (w s)⟩
  · exact h k rest ρ μ q _ _ z1
theorem n_skip {e' : τ → En} (s : τ) (w : Wkn l (e' s)) : Jd l gSkip (S.ret s) (pN e') := fun k rest ρ μ q => Jl.ret ⟨ρ, rfl, q.weak w⟩
/-- one statement after another -/
theorem r_seq {β : Type} {G G' : Rho → M Out} {t : S σ} {u : σ → S β} {e : σ → En} {P : Dk → Mu → Mu → Out → β → Prop} (h : Jd l G t (pN e)) (h2 : ∀ s, Jd (e s) G' (u s) fun k rest _ μ a b => P k rest μ a b) : Jd l (gSeq G G') (t.bind u) fun k rest _ μ a b => P k rest μ a b := fun k rest ρ μ q => by
  refine (h k rest ρ μ q).bind fun k1 μ1 a s ⟨ρ', z, q1⟩ => ?_
  subst z
  exact h2 s k1 rest ρ' μ1 q1
theorem r_ret (h : Jd l Fa ta (pV l1)) : Jd l (gRet Fa) ta pR := fun k rest ρ μ e => Jl.same <| by
  refine (h k rest ρ μ e).bind fun k1 μ1 a da ⟨z, e1⟩ => ?_
  subst z
  exact Jl.ret ⟨rfl, e1.pre⟩
theorem r_end : Jd l gSkip (S.ret .none) pE := fun k rest ρ μ e => Jl.ret ⟨.inr ⟨_, rfl, rfl⟩, e.pre⟩
theorem r_e {G : Rho → M Out} {t : S PyData} (h : Jd l G t pR) : Jd l G t pE := fun k rest ρ μ q => (h k rest ρ μ q).weak fun _ _ _ _ ⟨a, b⟩ => ⟨.inl a, b⟩
/-- if .. return, and the rest -/
theorem r_ifR {F : Rho → M Bool} {G G' : Rho → M Out} {t : S Bool} {tG tR : S PyData} (h : Jd l F t (pB l1)) (h1 : Jd l1 G tG pR) (h2 : Jd l1 G' tR pR) : Jd l (gSeq (gIf F G gSkip) G') (t.bind fun a => if a = true then tG else tR) pR := fun k rest ρ μ e => by
  refine Jl.eqM (m := (F ρ).bind fun k => if k = true then (G ρ).bind (fun o => match o with | .nx ρ' => G' ρ' | o => M.ret o) else G' ρ) ((h k rest ρ μ e).bind fun k1 μ1 a da ⟨z, e1⟩ => ?_) ?_
  · subst z
    refine Jl.ite ?_ (h2 k1 rest ρ μ1 e1)
    refine Jl.same ((h1 k1 rest ρ μ1 e1).bind fun k2 μ2 a d ⟨z, b⟩ => ?_)
    subst z
    exact Jl.ret ⟨rfl, b⟩
  · unfold gSeq gIf
    rw [M.assoc]
    congr 1
    funext b
    cases b <;> rfl
theorem q_if {β : Type} {F : Rho → M Bool} {G G' : Rho → M Out} {t : S Bool} {tG tR : S β} {P : Post Out β} (h : Jd l F t (pB l1)) (h1 : Jd l1 G tG P) (h2 : Jd l1 G' tR P) : Jd l (gIf F G G') (t.bind fun a => if a = true then tG else tR) P := fun k rest ρ μ e => by
  refine (h k rest ρ μ e).bind fun k1 μ1 a da ⟨z, e1⟩ => ?_
  subst z
  exact Jl.ite (h1 k1 rest ρ μ1 e1) (h2 k1 rest ρ μ1 e1)
/-! ### flows -/
inductive Fl (σ : Type) where
  | nx (s : σ)
  | rt (d : PyData)
  | bk (s : σ)
  | ct (s : σ)
def pS (x : Bool) (e : σ → En) : Post Out (Fl σ) := fun k rest _ μ a s => match a, s with
  | .nx ρ', .nx s => x = true ∧ EnvR (e s) k rest ρ' μ
  | .rt v, .rt d => v = .dat d ∧ based k rest μ
  | .bk ρ', .bk s => EnvR (e s) k rest ρ' μ
  | .ct ρ', .ct s => EnvR (e s) k rest ρ' μ
  | _, _ => False
theorem f_ret {x : Bool} {e' : σ → En} (h : Jd l Fa ta (pV l1)) : Jd l (gRet Fa) (ta.bind fun d => S.ret (.rt d)) (pS x e') := fun k rest ρ μ e => by
  refine (h k rest ρ μ e).bind fun k1 μ1 a da ⟨z, e1⟩ => ?_
  subst z
  exact Jl.ret ⟨rfl, e1.pre⟩
theorem f_skip {e' : τ → En} (s : τ) (w : Wkn l (e' s)) : Jd l gSkip (S.ret (.nx s)) (pS true e') := fun k rest ρ μ q => Jl.ret ⟨rfl, q.weak w⟩
theorem f_seq {x : Bool} {G G' : Rho → M Out} {t : S σ} {u : σ → S (Fl τ)} {e : σ → En} {e' : τ → En} (h : Jd l G t (pN e)) (h2 : ∀ s, Jd (e s) G' (u s) (pS x e')) : Jd l (gSeq G G') (t.bind u) (pS x e') := fun k rest ρ μ q => by
  refine (h k rest ρ μ q).bind fun k1 μ1 a s ⟨ρ', z, q1⟩ => ?_
  subst z
  exact h2 s k1 rest ρ' μ1 q1
/-- if .. that leaves, and the rest -/
theorem f_if {x : Bool} {F : Rho → M Bool} {G G' : Rho → M Out} {t : S Bool} {tG tR : S (Fl τ)} {e' : τ → En} (h : Jd l F t (pB l1)) (h1 : Jd l1 G tG (pS false e')) (h2 : Jd l1 G' tR (pS x e')) : Jd l (gSeq (gIf F G gSkip) G') (t.bind fun a => if a = true then tG else tR) (pS x e') := fun k rest ρ μ e => by
  refine Jl.eqM (m := (F ρ).bind fun k => if k = true then (G ρ).bind (fun o => match o with | .nx ρ' => G' ρ' | o => M.ret o) else G' ρ) ((h k rest ρ μ e).bind fun k1 μ1 a da ⟨z, e1⟩ => ?_) ?_
  · subst z
    refine Jl.ite ?_ (h2 k1 rest ρ μ1 e1)
    refine Jl.same ((h1 k1 rest ρ μ1 e1).bind fun k2 μ2 a d p => ?_)
    unfold pS at p
    split at p
    · exact absurd p.1 Bool.false_ne_true
    · exact Jl.ret p
    · exact Jl.ret p
    · exact Jl.ret p
    · exact p.elim
  · unfold gSeq gIf
    rw [M.assoc]
    congr 1
    funext b
    cases b <;> rfl
/-- a loop that may return, and the rest of a body -/
def flR (o : Fl σ) (f : σ → S PyData) : S PyData := match o with
  | .nx s => f s
  | .rt d => S.ret d
  | _ => S.fail
theorem r_flow {G G' : Rho → M Out} {t : S (Fl σ)} {u : σ → S PyData} {e : σ → En} (h : Jd l G t (pS true e)) (h2 : ∀ s, Jd (e s) G' (u s) pR) : Jd l (gSeq G G') (t.bind fun o => flR o u) pR := fun k rest ρ μ q => by
  refine (h k rest ρ μ q).bind fun k1 μ1 a s p => ?_
  unfold pS at p
  split at p
  · exact h2 _ k1 rest _ μ1 p.2
  · obtain ⟨z, b⟩ := p
    subst z
    exact Jl.ret ⟨rfl, b⟩
  · exact fun r k' z => nomatch z
  · exact fun r k' z => nomatch z
  · exact p.elim
def flF (o : Fl σ) (f : σ → S (Fl τ)) : S (Fl τ) := match o with
  | .nx s => f s
  | .rt d => S.ret (.rt d)
  | _ => S.fail
/-- a loop that may return, at the end of a loop's body -/
theorem f_flowL {G : Rho → M Out} {t : S (Fl σ)} {e : σ → En} {e' : τ → En} (f : σ → τ) (h : Jd l G t (pS true e)) (w : ∀ s, Wkn (e s) (e' (f s))) : Jd l G (t.bind fun o => flF o fun s => S.ret (.nx (f s))) (pS true e') := fun k rest ρ μ q => Jl.eqM (m := (G ρ).bind M.ret) (by
  refine (h k rest ρ μ q).bind fun k1 μ1 a s p => ?_
  unfold pS at p
  split at p
  · exact Jl.ret ⟨rfl, p.2.weak (w _)⟩
  · exact Jl.ret p
  · exact fun r k' z => nomatch z
  · exact fun r k' z => nomatch z
  · exact p.elim) (M.bind_ret _).symm
end
end Pf

set_option maxHeartbeats 1000000
namespace Pf
open PySem PySem.Spec PyProof.Rows L2
/-! ### zip of a tuple and a list, in any order -/
/-- true: a tuple, false: a list -/
def SqG (b : Bool) (K : PySem.W.Frag) (H : Hp) (a : Addr) (xs : List V) : Prop := match b with
  | true => SqT K H a xs
  | false => SqL K H a xs
def HpG (b : Bool) (h : Heap) (a : Addr) (its : Array Value) : Prop := match b with
  | true => h.IsTuple a its
  | false => h.IsList a its
def ItG (b : Bool) (h : Heap) (it a : Addr) (i : Nat) : Prop := match b with
  | true => h.IsTupleIter it a i
  | false => h.IsListIter it a i
def itObj (b : Bool) (a : Addr) : Obj := match b with
  | true => { cls := .type "tuple_iterator", data := .fields #[.ref a, .int 0 0] }
  | false => { cls := .type "list_iterator", data := .fields #[.ref a, .int 0 0] }
theorem begG (b : Bool) (a : Addr) (its : Array Value) : Begins (.ref a) (itObj b a) fun h => HpG b h a its := by
  cases b with
  | true => exact begins_tuple a its
  | false => exact begins_list a its
theorem drawG (b : Bool) {prog : Program} {w : World} {A : Around} (hh : A.handled = none) (it a : Addr) (hne : a ≠ it) (its : Array Value) :
    Draws prog w A it [it, a] its.size (fun i v => its[i]? = some v) (fun i h => ItG b h it a i ∧ HpG b h a its) := by
  cases b with
  | true => exact Draws.tuple hh it a hne its
  | false => exact Draws.list hh it a hne its
/-- an iterator that is at its end, or is not yet there -/
theorem drawE (b : Bool) {prog : Program} {w : World} {A : Around} (hh : A.handled = none) (it a : Addr) (hne : a ≠ it) (its : Array Value) (i : Nat) (hi : its.size ≤ i) :
    Draws prog w A it [it, a] i (fun _ _ => False) (fun j h => j = i ∧ ItG b h it a j ∧ HpG b h a its) := by
  have hx : its[i]? = none := by simp [hi]
  cases b with
  | true => exact ⟨fun _ _ st => let ⟨o, ho, _⟩ := st.2.1; ⟨o, ho⟩, fun _ _ _ st hk => ⟨st.1, Heap.IsTupleIter.at st.2.1 fun o e => hk it (by simp) o e, Heap.IsTuple.at st.2.2 fun o e => hk a (by simp) o e⟩, fun j s Q E hj st _ => absurd st.1 (Nat.ne_of_lt hj), fun s Q E st hE => PySem.wpAny_nextOf_tuple_end hh st.2.1 st.2.2 hx hE⟩
  | false => exact ⟨fun _ _ st => let ⟨o, ho, _⟩ := st.2.1; ⟨o, ho⟩, fun _ _ _ st hk => ⟨st.1, Heap.IsListIter.at st.2.1 fun o e => hk it (by simp) o e, Heap.IsList.at st.2.2 fun o e => hk a (by simp) o e⟩, fun j s Q E hj st _ => absurd st.1 (Nat.ne_of_lt hj), fun s Q E st hE => PySem.wpAny_nextOf_list_end hh st.2.1 st.2.2 hx hE⟩
theorem drawAt (b : Bool) {prog : Program} {w : World} {A : Around} (hh : A.handled = none) (it a : Addr) (hne : a ≠ it) (its : Array Value) (i : Nat) {h : Heap} (h1 : ItG b h it a i) (h2 : HpG b h a its) :
    ∃ n P St, Draws prog w A it [it, a] n P St ∧ St i h ∧ i ≤ n ∧ (its.size ≤ i → i = n) := by
  by_cases q : its.size ≤ i
  · exact ⟨_, _, _, drawE b hh it a hne its i q, ⟨rfl, h1, h2⟩, Nat.le_refl _, fun _ => rfl⟩
  · exact ⟨_, _, _, drawG b hh it a hne its, ⟨h1, h2⟩, by omega, fun z => absurd z q⟩
theorem ItG.obj {b : Bool} {h : Heap} {it a : Addr} {i : Nat} (x : ItG b h it a i) : ∃ o, h.get? it = some o ∧ ∀ v, o.data ≠ .cell v := by
  cases b with
  | true =>
    obtain ⟨o, e, _, d⟩ := x
    exact ⟨o, e, fun v q => by rw [d] at q; cases q⟩
  | false =>
    obtain ⟨o, e, _, d⟩ := x
    exact ⟨o, e, fun v q => by rw [d] at q; cases q⟩
theorem ItG.carry {b : Bool} {h h' : Heap} {it a : Addr} {i : Nat} (x : ItG b h it a i) (k : ∀ o, h.get? it = some o → h'.get? it = some o) : ItG b h' it a i := by
  cases b with
  | true => exact Heap.IsTupleIter.at x k
  | false => exact Heap.IsListIter.at x k
theorem ItG.new {b : Bool} {h : Heap} {it a : Addr} (e : h.get? it = some (itObj b a)) : ItG b h it a 0 := by
  cases b with
  | true => exact ⟨_, e, rfl, rfl⟩
  | false => exact ⟨_, e, rfl, rfl⟩
section
variable {X : Cx} {pins : List (Addr × Obj)} {σ : L2.St} {H : Hp} {s : Shared} {a : Addr} {xs ys : List V} {b : Bool}
theorem inv_G (I : Inv X pins σ H s) (h : SqG b X.K H a xs) : ∃ its : List Value, Vals xs its ∧ HpG b s.heap a its.toArray ∧ a < s.heap.objs.size := by
  cases b with
  | true =>
    obtain ⟨its, rv, p, _⟩ := I.tuple h
    obtain ⟨o, ho, q⟩ := p
    exact ⟨its, rv, ⟨o, ho, q⟩, Heap.lt_size ho⟩
  | false =>
    obtain ⟨its, rv, p, _⟩ := I.list h
    exact ⟨its, rv, p.isList, p.lt⟩
theorem inv_G_inj (I : Inv X pins σ H s) (h : SqG b X.K H a xs) (h' : SqG b X.K H a ys) : xs = ys := by
  cases b with
  | true => exact I.tuple_inj h h'
  | false => exact I.list_inj h h'
end
theorem SqG.mono {b : Bool} {K : PySem.W.Frag} {H H' : Hp} {a : Addr} {xs : List V} (e : Same H H') (h : SqG b K H a xs) : SqG b K H' a xs := by
  cases b with
  | true => exact seqT_mono e h
  | false => exact (match h with
      | .inl (.inl h) => .inl (.inl (e _ _ h))
      | .inl (.inr ⟨o, h⟩) => .inl (.inr ⟨o, e _ _ h⟩)
      | .inr h => .inr h)
/-- pairs of the items at a and b, as these stand at each turn -/
def ItzG (c d : Bool) (K : PySem.W.Frag) (a b : Addr) : It :=
  ⟨fun i H => ∃ (xs ys : List V) (x y : V), (SqG c K H a xs ∧ xs[i]? = some x) ∧ SqG d K H b ys ∧ ys[i]? = some y,
    fun i H v H' => ∃ T x y, v = .ref T ∧ H T = none ∧ H' = upd H T (.tup [x, y]) ∧ (∀ xs, SqG c K H a xs → xs[i]? = some x) ∧ ∀ ys, SqG d K H b ys → ys[i]? = some y,
    fun i H => ∃ xs ys : List V, SqG c K H a xs ∧ SqG d K H b ys ∧ (xs.length ≤ i ∨ ys.length ≤ i)⟩
theorem turn_zipG {c d : Bool} {P : Program} {w : World} {K : PySem.W.Frag} {elts : List Expr} {kk : Nat} {tpos : Pos} {a b Z U O j1 j2 : Addr} (D : ZipApart Z U O j1 j2 a b) :
    Turn P w K (.Tuple elts kk tpos) (ItzG c d K a b) [Z, U, O, j1, j2] Z (fun i h => IsZip h Z U O .none ∧ IsTupOf2 h U (.ref j1) (.ref j2) ∧ (∃ x y, IsTupOf2 h O x y) ∧ ItG c h j1 a i ∧ ItG d h j2 b i) := by
  have sep : ZipSep2 Z U O j1 j2 [j1, a] [j2, b] := by
    refine { TIz := D.TIz, TOz := D.TOz, TITO := D.TITO, TIi1 := D.TIi1, mem1 := by simp, zf1 := ?_, Tf1 := ?_, TIi2 := D.TIi2, mem2 := by simp, zf2 := ?_, Tf2 := ?_, sep1_2 := ?_, sep2_1 := ?_ }
    · simp [D.i1z.symm, D.l1z.symm]
    · simp [D.TOi1, D.l1TO.symm]
    · simp [D.i2z.symm, D.l2z.symm]
    · simp [D.TOi2, D.l2TO.symm]
    · simp [D.i12, D.l2i1.symm]
    · simp [D.i12.symm, D.l1i2.symm]
  have five : ∀ e, e ∈ [Z, U, O, j1, j2] → e = Z ∨ e = U ∨ e = O ∨ e = j1 ∨ e = j2 := fun e he => by simpa using he
  refine ⟨by simp, fun i h st e he => ?_, fun i h h' st k => ?_, ?_, ?_, fun A i s Q E st h => wpAny_pyIter_zip st.1 h⟩
  · obtain ⟨sz, sU, ⟨x, y, sO⟩, t1, t2⟩ := st
    rcases five e he with q | q | q | q | q
    · rw [q]
      exact ⟨_, sz, fun v q => nomatch q⟩
    · rw [q]
      exact ⟨_, sU, fun v q => nomatch q⟩
    · rw [q]
      exact ⟨_, sO, fun v q => nomatch q⟩
    · exact q ▸ t1.obj
    · exact q ▸ t2.obj
  · obtain ⟨sz, sU, ⟨x, y, sO⟩, t1, t2⟩ := st
    exact ⟨k Z (by simp) _ sz, k U (by simp) _ sU, ⟨x, y, k O (by simp) _ sO⟩, t1.carry fun o q => k j1 (by simp) o q, t2.carry fun o q => k j2 (by simp) o q⟩
  · intro X hP hw hK hc i pins s σ H E I hf st hg
    subst hP hw hK
    obtain ⟨sz, sU, ⟨x0, y0, sO⟩, t1, t2⟩ := st
    obtain ⟨xs, ys, x, y, ⟨mx, gx⟩, my, gy⟩ := hg
    obtain ⟨us, rx, px, _⟩ := inv_G I mx
    obtain ⟨vs, ry, py, _⟩ := inv_G I my
    obtain ⟨u, hu, ru⟩ := rx.get gx
    obtain ⟨v, hv, rv⟩ := ry.get gy
    have zl : Z < s.heap.objs.size := Heap.lt_size sz
    have lu : i < us.toArray.size := by
      have := (List.getElem?_eq_some_iff.mp hu).1
      simpa using this
    have lv : i < vs.toArray.size := by
      have := (List.getElem?_eq_some_iff.mp hv).1
      simpa using this
    have hh : X.A.in1.handled = none := I.ok.hd hc
    have D1 := drawG c (prog := X.prog) (w := X.w) hh j1 a D.l1i1 us.toArray
    have D2 := drawG d (prog := X.prog) (w := X.w) hh j2 b D.l2i2 vs.toArray
    refine wpAny_pyNext_zipD2_item sep D1 D2 sz sU sO ⟨t1, px⟩ ⟨t2, py⟩ lu lv fun u' v' h' tk e1 e2 z' O' s1 s2 hT hsz hk => ?_
    have e1' : u' = u := by
      rw [show us.toArray[i]? = us[i]? by simp] at e1
      exact Option.some.inj (e1.symm.trans hu)
    have e2' : v' = v := by
      rw [show vs.toArray[i]? = vs[i]? by simp] at e2
      exact Option.some.inj (e2.symm.trans hv)
    subst e1' e2'
    refine ⟨_, rfl, wpAny_letOwnedTupleGo_zip (s := { s with heap := h', toks := tk }) z' fun g z'' sb => ?_⟩
    have up : ∀ e o, e ≠ Z → h'.get? e = some o → g.get? e = some o := fun e o ne q => (sb.2 e ne).trans q
    have hT2 : g.get? s.heap.objs.size = some { cls := .type "tuple", data := .seq #[u', v'] } := up _ _ (Nat.ne_of_gt zl) hT
    have ok : ObjOk X.prog X.w (upd H s.heap.objs.size (.tup [x, y])) g s.heap.objs.size (.tup [x, y]) := ⟨by show 2 ≤ sizeLine; decide, [u', v'], .cons ru (.cons rv .nil), ⟨_, hT2, rfl, _, rfl⟩⟩
    have I1 : Inv X pins σ (upd H s.heap.objs.size (.tup [x, y])) { s with heap := g, toks := tk } := by
      refine I.turnedNew (t' := tk) (ch := [Z, U, O, j1, j2]) (fun e o hb q => up e o ?_ (hk e o ?_ ?_ ?_ ?_ q)) hf (Nat.le_refl _) ok <;> exact fun q' => hb (by simp [q'])
    refine ⟨.ref s.heap.objs.size, _, I1, rfl, ⟨_, x, y, rfl, I.hok.fresh (Nat.le_refl _), rfl, fun l hl => by rw [inv_G_inj I hl mx]; exact gx, fun l hl => by rw [inv_G_inj I hl my]; exact gy⟩, ⟨z'', up _ _ D.TIz (hk _ _ D.TIz D.TITO D.TIi1 D.TIi2 sU), ⟨u', v', up _ _ D.TOz O'⟩, s1.1.carry fun o q => up _ o D.i1z q, s2.1.carry fun o q => up _ o D.i2z q⟩, fun e he => ?_⟩
    have el : e < s.heap.objs.size := by
      rcases five e he with q | q | q | q | q
      · exact q ▸ zl
      · exact q ▸ Heap.lt_size sU
      · exact q ▸ Heap.lt_size sO
      · obtain ⟨_, e1, _⟩ := t1.obj
        exact q ▸ Heap.lt_size e1
      · obtain ⟨_, e1, _⟩ := t2.obj
        exact q ▸ Heap.lt_size e1
    rw [upd_ne (Nat.ne_of_lt el)]
    exact (hf e he).1
  · intro X hP hw hK hc i pins s σ H E I hf st hg
    subst hP hw hK
    obtain ⟨sz, sU, ⟨x0, y0, sO⟩, t1, t2⟩ := st
    obtain ⟨xs, ys, mx, my, fin⟩ := hg
    obtain ⟨us, rx, px, _⟩ := inv_G I mx
    obtain ⟨vs, ry, py, _⟩ := inv_G I my
    have k1 := rx.length
    have k2 := ry.length
    have hh : X.A.in1.handled = none := I.ok.hd hc
    obtain ⟨m1, P1, S1, D1, s1, l1, f1⟩ := drawAt c (prog := X.prog) (w := X.w) hh j1 a D.l1i1 us.toArray i t1 px
    obtain ⟨m2, P2, S2, D2, s2, l2, f2⟩ := drawAt d (prog := X.prog) (w := X.w) hh j2 b D.l2i2 vs.toArray i t2 py
    have n1 : us.toArray.size = us.length := by simp
    have n2 : vs.toArray.size = vs.length := by simp
    refine wpAny_pyNext_zipD2_end sep D1 D2 sz sU sO s1 s2 l1 l2 (by
      rcases fin with z | z
      · exact .inl (f1 (by omega))
      · exact .inr (f2 (by omega))) fun h' tk hk => ⟨rfl, ?_⟩
    refine I.turnedL (t' := tk) (ch := [Z, U, O, j1, j2]) (fun e o hb q => hk e o ?_ ?_ ?_ ?_ q) hf <;> exact fun q' => hb (by simp [q'])
def iZipG (K : PySem.W.Frag) (ta : TA) : TI := fun σ H R => ta σ H fun vs H1 => ∃ c d a b xs ys, vs = [.ref a, .ref b] ∧ SqG c K H1 a xs ∧ SqG d K H1 b ys ∧ R (ItzG c d K a b) H1
theorem pi_zipG {X : Cx} {e e2 : Expr} {ta : TA} {p pos tpos : Pos} {elts : List Expr} {kk : Nat} (hg : Gl X "zip") (hm : X.mg "zip" = none) (ha : PA X [e, e2] ta)
    (hs : starEach [e, e2] X.env = (false, eval e X.env) :: starEach [e2] X.env) (hpl : (backTo pos (starEach [e2] X.env)).any (·.1) = false) :
    PI X (.Tuple elts kk tpos) (.Call (.Name "zip" p) [e, e2] [] pos) (iZipG X.K ta) := by
  constructor
  intro pins s σ H R I h
  refine Call_ (ld_blt I hg hm PyProof.Rows.boot_zip (PyProof.Rows.callWith_type1 (thn (ha.run pos pins s σ H _ I h) ?_) hs hpl))
  intro us s1 ⟨vs, H1, I1, r1, q1⟩
  obtain ⟨c, d, a, b, xs, ys, ex, mx, my, q⟩ := q1
  subst ex
  cases r1 with
  | cons r rr =>
   cases rr with
   | cons r' rr =>
    cases rr
    cases r
    cases r'
    obtain ⟨its, rv, px, la⟩ := inv_G I1 mx
    obtain ⟨its2, rv2, py, lb⟩ := inv_G I1 my
    refine zip_begins2 (begG c a its.toArray) (begG d b its2.toArray) px py fun h' z1 z2 z3 z4 z5 hsz hk => wpAny_pyIter_zip z1 ?_
    have I2 : Inv X pins σ H1 { s1 with heap := h' } := I1.kept (t' := s1.toks) hk
    refine ⟨s1.heap.objs.size + 4, [s1.heap.objs.size + 4, s1.heap.objs.size + 2, s1.heap.objs.size + 3, s1.heap.objs.size, s1.heap.objs.size + 1], _, _, H1, rfl, I2, turn_zipG (PySem.W.ktu_apart s1.heap.objs.size a b la lb), ⟨z1, z2, ⟨_, _, z3⟩, .new z4, .new z5⟩, fun e he => ?_, q⟩
    have le : s1.heap.objs.size ≤ e := by
      rcases (show e = s1.heap.objs.size + 4 ∨ e = s1.heap.objs.size + 2 ∨ e = s1.heap.objs.size + 3 ∨ e = s1.heap.objs.size ∨ e = s1.heap.objs.size + 1 by simpa using he) with q | q | q | q | q
      · exact q ▸ Nat.le_add_right _ 4
      · exact q ▸ Nat.le_add_right _ 2
      · exact q ▸ Nat.le_add_right _ 3
      · exact q ▸ Nat.le_refl _
      · exact q ▸ Nat.le_add_right _ 1
    exact I1.fpOk le (I1.hok.fresh le)
/-! ### the reading -/
def sqKind : PyData → Option (Bool × List PyData)
  | .list ds => some (false, ds)
  | .tuple ds => some (true, ds)
  | _ => none
theorem Dq.sq {K : PySem.W.Frag} {H : Hp} {v : V} {d : PyData} {b : Bool} {ds : List PyData} (h : Dq K H v d) (e : sqKind d = some (b, ds)) : ∃ a vs, v = .ref a ∧ SqG b K H a vs ∧ Dqs K H vs ds := by
  cases h with
  | lst h r =>
    cases e
    exact ⟨_, _, rfl, SqL.of h, r⟩
  | tup h r =>
    cases e
    exact ⟨_, _, rfl, h, r⟩
  | _ => cases e
theorem wk_zipG {c d : Bool} {K : PySem.W.Frag} {W : Wd} {a b : Addr} {vs us : List V} {ds es : List PyData} (h : SqG c K W.S a vs) (r : Dqs K W.S vs ds) (h2 : SqG d K W.S b us) (r2 : Dqs K W.S us es) : Wk K (ItzG c d K a b) W (zipD ds es) where
  go := fun i x W1 H μ g R e => by
    obtain ⟨d1, d2, e1, e2, rfl⟩ := zip_at e
    obtain ⟨v, a1, _⟩ := r.getD e1
    obtain ⟨u, a2, _⟩ := r2.getD e2
    exact ⟨vs, us, v, u, ⟨(h.mono g).mono R.sub, a1⟩, (h2.mono g).mono R.sub, a2⟩
  yld := fun i x W1 H μ v H' g R e y => by
    obtain ⟨d1, d2, e1, e2, rfl⟩ := zip_at e
    obtain ⟨T, x1, x2, rfl, nT, rfl, f1, f2⟩ := y
    obtain ⟨v, a1, q1⟩ := r.getD e1
    obtain ⟨u, a2, q2⟩ := r2.getD e2
    have z1 := f1 vs ((h.mono g).mono R.sub)
    have z2 := f2 us ((h2.mono g).mono R.sub)
    rw [a1] at z1
    rw [a2] at z2
    cases z1
    cases z2
    exact pair_new R nT (Dq.mono g q1) (Dq.mono g q2)
  stop := fun i W1 H μ g R e => ⟨vs, us, (h.mono g).mono R.sub, (h2.mono g).mono R.sub, by rw [r.len, r2.len]; exact zip_len e⟩
def ziD (d e : PyData) : Option (List PyData) := match sqKind d, sqKind e with
  | some x, some y => some (zipD x.2 y.2)
  | _, _ => none
def zipW (Fa Fb : Rho → M Sv) (ρ : Rho) : M (List PyData) := (Fa ρ).bind fun s => (Fb ρ).bind fun t => match s, t with
  | .dat d, .dat e => orFail (ziD d e)
  | _, _ => M.fail
section
variable {X : Cx} {E : XK} {a b : Expr} {Fa Fb : Rho → M Sv} {pos p tpos : Pos}
theorem i_zipW {elts : List Expr} {kk : Nat} (hg : Gl X "zip") (hm : X.mg "zip" = none) (ha : PX X E a Fa) (hb : PX X E b Fb) (hs : starEach [a, b] X.env = (false, eval a X.env) :: starEach [b] X.env := by rfl) (hs2 : starEach [b] X.env = (false, eval b X.env) :: starEach [] X.env := by rfl) (hpl : (backTo pos (starEach [b] X.env)).any (·.1) = false := by rfl) :
    PIX X E (.Tuple elts kk tpos) (.Call (.Name "zip" p) [a, b] [] pos) (zipW Fa Fb) := pi_weak (pi_zipG hg hm (pa_cons ha (pa_cons hb pa_nil hs2) hs) hs hpl) fun σ H R ⟨W, ρ, μ, r, h, e, q⟩ => by
  refine tX_bind h e q fun v s W1 H1 μ1 g1 h1 rs e1 q1 => tX_bind h1 e1 q1 fun u t W2 H2 μ2 g2 h2 rt e2 q2 => ?_
  have rs' := rs.grow g2
  split at e2
  · rename_i d e
    cases ez : ziD d e with
    | none =>
      rw [ez] at e2
      cases e2
    | some ds =>
    rw [ez] at e2
    cases e2
    unfold ziD at ez
    split at ez
    · rename_i x y hx hy
      obtain ⟨c1, xs⟩ := x
      obtain ⟨c2, ys⟩ := y
      cases ez
      obtain ⟨a1, vs, rfl, m1, r1⟩ := Dq.sq rs' hx
      obtain ⟨a2, us, rfl, m2, r2⟩ := Dq.sq rt hy
      exact ⟨c1, c2, _, _, _, _, rfl, m1.mono h2.rel.sub, m2.mono h2.rel.sub, q2 _ _ (Grow.refl _ _ _) h2.rel _ (wk_zipG m1 r1 m2 r2)⟩
    · cases ez
  · cases e2
end
end Pf

namespace Pf
open PySem PySem.Spec PyProof.Rows L2
/-! ### what is walked -/
section
variable {l l1 l2 : En} {Fa Fb Fc : Rho → M Sv} {ta tb tc : S PyData} {σ τ : Type}
def seqD : PyData → Option (List PyData)
  | .list ds => some ds
  | .tuple ds => some ds
  | _ => none
def rngD : PyData → Option (List PyData)
  | .int i => if big62 i = true then some (fromTo 0 i.toNat) else none
  | _ => none
theorem w_seq (h : Jd l Fa ta (pV l1)) : Jd l (seqV Fa) (ta.bind fun a => S.lift (seqD a)) (pL l1) := fun k rest ρ μ e => by
  refine (h k rest ρ μ e).bind fun k1 μ1 a da ⟨z, e1⟩ => ?_
  subst z
  refine Jl.lift fun ds q => ?_
  cases da <;> cases q <;> exact ⟨_, μ1, rfl, rfl, e1⟩
theorem w_rng (h : Jd l Fa ta (pV l1)) : Jd l (rngV Fa) (ta.bind fun a => S.lift (rngD a)) (pL l1) := fun k rest ρ μ e => by
  refine (h k rest ρ μ e).bind fun k1 μ1 a da ⟨z, e1⟩ => ?_
  subst z
  refine Jl.lift fun ds q => ?_
  cases da with
  | int i =>
    dsimp only [rngD] at q
    by_cases hb : big62 i = true
    · rw [if_pos hb] at q
      cases q
      refine ⟨_, μ1, ?_, rfl, e1⟩
      show M.bind (M.ret i) _ μ1 = _
      rw [bind_ok (show M.ret i μ1 = some (.ok i μ1) from rfl), if_pos hb]
      rfl
    · rw [if_neg hb] at q
      cases q
  | _ => cases q
theorem w_zip (ha : Jd l Fa ta (pV l1)) (hb : Jd l1 Fb tb (pV l2)) : Jd l (zipW Fa Fb) (ta.bind fun a => tb.bind fun b => S.lift (ziD a b)) (pL l2) := fun k rest ρ μ e => by
  refine (ha k rest ρ μ e).bind fun k1 μ1 a da ⟨z, e1⟩ => ?_
  subst z
  refine (hb k1 rest ρ μ1 e1).bind fun k2 μ2 b db ⟨z, e2⟩ => ?_
  subst z
  refine Jl.lift fun ds q => ?_
  refine ⟨_, μ2, ?_, rfl, e2⟩
  show orFail (ziD da db) μ2 = _
  rw [q]
  rfl
/-! ### comprehensions -/
def wipeE (l : En) : List Nat → En
  | [] => l
  | v :: vs => (wipeE l vs).set v none
theorem EnvR.wipe1 {k : Dk} {rest : Mu} {ρ : Rho} {μ : Mu} (h : EnvR l k rest ρ μ) (i : Nat) : EnvR (l.set i none) k rest (ρ.set i none) μ := by
  have sub : ∀ (j : Nat) (x : Sk), (l.set i none)[j]? = some (some x) → j ≠ i ∧ l[j]? = some (some x) := fun j x e => by
    rcases getE_set e with ⟨_, z, _⟩ | ⟨hj, e⟩
    · cases z
    · exact ⟨hj, e⟩
  refine ⟨h.pre, by rw [List.length_set, List.length_set, h.len], fun j x e => ?_, fun a b xs ys t e1 e2 e3 e4 => ?_⟩
  · obtain ⟨hj, e⟩ := sub j x e
    obtain ⟨s, e1, e2⟩ := h.at_ j x e
    exact ⟨s, by rw [List.getElem?_set_ne fun z => hj z.symm]; exact e1, e2⟩
  · obtain ⟨ha, e1⟩ := sub _ _ e1
    obtain ⟨hb, e2⟩ := sub _ _ e2
    rw [List.getElem?_set_ne fun z => ha z.symm] at e3
    rw [List.getElem?_set_ne fun z => hb z.symm] at e4
    exact h.inj a b xs ys t e1 e2 e3 e4
theorem EnvR.wipe {k : Dk} {rest : Mu} {ρ : Rho} {μ : Mu} (h : EnvR l k rest ρ μ) : ∀ vs : List Nat, EnvR (wipeE l vs) k rest (wipeR ρ vs) μ
  | [] => h
  | v :: vs => (h.wipe vs).wipe1 v
theorem wipeR_len (ρ : Rho) : ∀ vs : List Nat, (wipeR ρ vs).length = ρ.length
  | [] => rfl
  | v :: vs => by
    show ((wipeR ρ vs).set v none).length = _
    rw [List.length_set, wipeR_len ρ vs]
theorem wipeR_get {ρ : Rho} {j : Nat} : ∀ {vs : List Nat}, j ∉ vs → (wipeR ρ vs)[j]? = ρ[j]?
  | [], _ => rfl
  | v :: vs, h => by
    show ((wipeR ρ vs).set v none)[j]? = _
    rw [List.getElem?_set_ne (fun z : v = j => h (z ▸ List.mem_cons_self)), wipeR_get fun z => h (List.mem_cons_of_mem _ z)]
theorem wipeE_get {j : Nat} {x : Sk} : ∀ {vs : List Nat}, (wipeE l vs)[j]? = some (some x) → j ∉ vs
  | [], _ => List.not_mem_nil
  | v :: vs, h => fun m => by
    rcases getE_set (show ((wipeE l vs).set v none)[j]? = _ from h) with ⟨_, z, _⟩ | ⟨hj, e⟩
    · cases z
    · rcases List.mem_cons.mp m with m | m
      · exact hj m
      · exact wipeE_get e m
theorem EnvR.unwipe {k : Dk} {rest : Mu} {ρ : Rho} {μ : Mu} {vs : List Nat} (hw : wipeE l vs = l) (h : EnvR l k rest (wipeR ρ vs) μ) : EnvR l k rest ρ μ := by
  have out : ∀ (j : Nat) (x : Sk), l[j]? = some (some x) → (wipeR ρ vs)[j]? = ρ[j]? := fun j x e => wipeR_get (wipeE_get (l := l) (by rw [hw]; exact e))
  refine ⟨h.pre, by rw [← h.len, wipeR_len], fun j x e => ?_, fun a b xs ys t e1 e2 e3 e4 => ?_⟩
  · obtain ⟨s, e1, e2⟩ := h.at_ j x e
    rw [out j x e] at e1
    exact ⟨s, e1, e2⟩
  · exact h.inj a b xs ys t e1 e2 (by rw [out a _ e1]; exact e3) (by rw [out b _ e2]; exact e4)
def szD (ds : List PyData) : Option PUnit := if szOk ds.length = true then some ⟨⟩ else none
theorem noex_ok {α : Type} {m : M α} {μ μ' : Mu} {a : α} (h : m μ = some (.ok a μ')) : noEx m μ = some (.ok a μ') := by
  unfold noEx
  rw [h]
def lcE (l : En) (Fe : Rho → M Sv) (k' : Dk) (rest : Mu) (ρ ρ1 : Rho) (μ2 : Mu) (b : Bool) : Option PyData → Prop
  | some x => b = true ∧ ∃ μ3, Fe ρ1 μ2 = some (.ok (.dat x) μ3) ∧ EnvR l k' rest ρ μ3
  | none => b = false ∧ EnvR l k' rest ρ μ2
theorem lc_run {T : Sv → Rho → M Rho} {C : Rho → M Bool} {Fe : Rho → M Sv} {rest : Mu} {item : PyData → S (Option PyData)} {ρ : Rho}
    (h : ∀ d k μ, EnvR l k rest ρ μ → ∀ o k', item d k = some (.ok o, k') → ∃ ρ1 μ1 b μ2, T (.dat d) ρ μ = some (.ok ρ1 μ1) ∧ C ρ1 μ1 = some (.ok b μ2) ∧ lcE l Fe k' rest ρ ρ1 μ2 b o) : ∀ (ds : List PyData) (k : Dk) (μ : Mu), EnvR l k rest ρ μ → ∀ r k', S.mapF (fun d => S.noEx (item d)) ds k = some (r, k') → ∃ xs μ', r = .ok xs ∧ lcL T C Fe ds ρ μ = some (.ok (xs.map Sv.dat) μ') ∧ EnvR l k' rest ρ μ'
  | [], k, μ, e, r, k', q => by
    cases q
    exact ⟨[], μ, rfl, rfl, e⟩
  | d :: ds, k, μ, e, r, k', q => by
    unfold S.mapF at q
    rcases S.bind_inv q with ⟨o, k1, q1, q2⟩ | ⟨c, q1, rfl⟩
    · have q1' : item d k = some (.ok o, k1) := by
        unfold S.noEx at q1
        split at q1
        · rename_i z
          cases q1
          exact z
        · cases q1
      obtain ⟨ρ1, μ1, b, μ2, w1, w2, w3⟩ := h d k μ e o k1 q1'
      cases o with
      | some x =>
        obtain ⟨rfl, μ3, w3, e3⟩ := w3
        rcases S.bind_inv q2 with ⟨bs, k2, q3, q4⟩ | ⟨c, q3, rfl⟩
        · obtain ⟨xs, μ4, z, w4, e4⟩ := lc_run h ds k1 μ3 e3 _ _ q3
          cases z
          cases q4
          refine ⟨x :: bs, μ4, rfl, ?_, e4⟩
          unfold lcL
          rw [bind_ok (noex_ok w1), bind_ok (noex_ok w2), if_pos rfl, bind_ok (noex_ok w3), bind_ok w4]
          rfl
        · obtain ⟨xs, μ4, z, w4, e4⟩ := lc_run h ds k1 μ3 e3 _ _ q3
          cases z
      | none =>
        obtain ⟨rfl, e3⟩ := w3
        rcases S.bind_inv q2 with ⟨bs, k2, q3, q4⟩ | ⟨c, q3, rfl⟩
        · obtain ⟨xs, μ4, z, w4, e4⟩ := lc_run h ds k1 μ2 e3 _ _ q3
          cases z
          cases q4
          refine ⟨bs, μ4, rfl, ?_, e4⟩
          unfold lcL
          rw [bind_ok (noex_ok w1), bind_ok (noex_ok w2), if_neg Bool.false_ne_true, w4]
        · obtain ⟨xs, μ4, z, w4, e4⟩ := lc_run h ds k1 μ2 e3 _ _ q3
          cases z
    · exfalso
      unfold S.noEx at q1
      split at q1
      · cases q1
      · cases q1
theorem mapF_some {α β : Type} (f : α → S β) : ∀ xs : List α, S.mapF (fun d => S.noEx ((f d).bind fun x => S.ret (some x))) xs = S.mapM (fun d => S.noEx (f d)) xs
  | [] => rfl
  | x :: xs => by
    unfold S.mapF S.mapM
    rw [mapF_some f xs]
    have : S.noEx ((f x).bind fun x => S.ret (some x)) = (S.noEx (f x)).bind fun x => S.ret (some x) := by
      funext k
      unfold S.noEx S.bind S.ret
      dsimp only
      generalize f x k = z
      rcases z with _ | ⟨_ | _, k'⟩ <;> rfl
    rw [this, S.bind_assoc]
    rfl
section
variable {Fi : Rho → M (List PyData)} {tw : S (List PyData)} {T : Sv → Rho → M Rho} {u : PyData → S σ} {e' : σ → En} {C : Rho → M Bool} {tC : σ → S Bool} {Fe : Rho → M Sv} {te : σ → S PyData}
theorem lc_item (hT : ∀ d, Jd l (T (.dat d)) (u d) (pTc l e')) (hC : ∀ s, Jd (e' s) C (tC s) (pB (e' s))) (he : ∀ s, Jd (e' s) Fe (te s) (pV (e' s))) {rest : Mu} {ρ : Rho} (d : PyData) (k : Dk) (μ : Mu) (e : EnvR l k rest ρ μ) (o : Option PyData) (k' : Dk)
    (q : ((u d).bind fun s => (tC s).bind fun z => if z = true then (te s).bind fun x => S.ret (some x) else S.ret none) k = some (.ok o, k')) : ∃ ρ1 μ1 b μ2, T (.dat d) ρ μ = some (.ok ρ1 μ1) ∧ C ρ1 μ1 = some (.ok b μ2) ∧ lcE l Fe k' rest ρ ρ1 μ2 b o := by
  rcases S.bind_inv q with ⟨s, k1, q1, q2⟩ | ⟨c, q1, z⟩
  · obtain ⟨ρ1, μ1, w1, e1, back⟩ := hT d k rest ρ μ e _ _ q1
    rcases S.bind_inv q2 with ⟨b, k2, q3, q4⟩ | ⟨c, q1, z⟩
    · obtain ⟨b', μ2, w2, rfl, e2⟩ := hC s k1 rest ρ1 μ1 e1 _ _ q3
      refine ⟨ρ1, μ1, b', μ2, w1, w2, ?_⟩
      cases b' with
      | true =>
        rw [if_pos rfl] at q4
        rcases S.bind_inv q4 with ⟨x, k3, q5, q6⟩ | ⟨c, q5, z⟩
        · cases q6
          obtain ⟨v, μ3, w3, rfl, e3⟩ := he s k2 rest ρ1 μ2 e2 _ _ q5
          exact ⟨rfl, μ3, w3, back _ _ e3⟩
        · cases z
      | false =>
        rw [if_neg Bool.false_ne_true] at q4
        cases q4
        exact ⟨rfl, back _ _ e2⟩
    · cases z
  · cases z
theorem lc_core {m : Bool} {vs : List Nat} {item : PyData → S (Option PyData)} (hi : Jd l Fi tw (pL l1)) (hw : wipeE l1 vs = l1)
    (h : ∀ rest ρ d k μ, EnvR l1 k rest ρ μ → ∀ o k', item d k = some (.ok o, k') → ∃ ρ1 μ1 b μ2, T (.dat d) ρ μ = some (.ok ρ1 μ1) ∧ C ρ1 μ1 = some (.ok b μ2) ∧ lcE l1 Fe k' rest ρ ρ1 μ2 b o) {β : Type} (out : List PyData → β) (P : Post Sv β) (fin : ∀ k rest ρ μ xs, EnvR l1 k rest ρ μ → ∃ a μ', mkl m (xs.map Sv.dat) μ = some (.ok a μ') ∧ P k rest ρ μ' a (out xs)) :
    Jd l (lcV m vs Fi T C Fe) (tw.bind fun ds => (S.lift (szD ds)).bind fun _ => (S.mapF (fun d => S.noEx (item d)) ds).bind fun xs => S.ret (out xs)) P := fun k rest ρ μ e => by
  refine (hi k rest ρ μ e).bind fun k1 μ1 a ds ⟨z, e1⟩ => ?_
  subst z
  refine Jl.pre fun _ q => ?_
  have hsz : szOk a.length = true := by
    unfold szD at q
    split at q
    · assumption
    · cases q
  rw [if_pos hsz]
  have e2 : EnvR l1 k1 rest (wipeR ρ vs) μ1 := by
    have := e1.wipe vs
    rwa [hw] at this
  intro r k' q
  rcases S.bind_inv q with ⟨xs, k2, q1, q2⟩ | ⟨c, q1, z⟩
  · obtain ⟨xs', μ2, z, w, e3⟩ := lc_run (T := T) (C := C) (Fe := Fe) (fun d k μ e => h rest _ d k μ e) a k1 μ1 e2 _ _ q1
    cases z
    cases q2
    obtain ⟨a, μ', w2, p⟩ := fin _ rest ρ μ2 xs (e3.unwipe hw)
    exact ⟨a, μ', by rw [bind_ok w]; exact w2, p⟩
  · obtain ⟨xs', μ2, z, w, e3⟩ := lc_run (T := T) (C := C) (Fe := Fe) (fun d k μ e => h rest _ d k μ e) a k1 μ1 e2 _ _ q1
    cases z
theorem fin_V {k : Dk} {rest : Mu} {ρ : Rho} {μ : Mu} (xs : List PyData) (e : EnvR l1 k rest ρ μ) : ∃ a μ', mkl false (xs.map Sv.dat) μ = some (.ok a μ') ∧ pV l1 k rest ρ μ' a (.list xs) := ⟨_, μ, mkl_dat xs μ, rfl, e⟩
theorem yes_j {le : En} : Jd le yes (S.ret true) (pB le) := fun k rest ρ μ e => Jl.ret ⟨rfl, e⟩
theorem e_lc (vs : List Nat) (hi : Jd l Fi tw (pL l1)) (hw : wipeE l1 vs = l1) (hT : ∀ d, Jd l1 (T (.dat d)) (u d) (pTc l1 e')) (he : ∀ s, Jd (e' s) Fe (te s) (pV (e' s))) :
    Jd l (lcV false vs Fi T yes Fe) (tw.bind fun ds => (S.lift (szD ds)).bind fun _ => (S.mapM (fun d => S.noEx ((u d).bind te)) ds).bind fun xs => S.ret (.list xs)) (pV l1) := by
  have := lc_core (m := false) (T := T) (C := yes) (Fe := Fe) hi hw (fun rest ρ d k μ e => lc_item hT (fun s => yes_j) he d k μ e) PyData.list (pV l1) fun k rest ρ μ xs e => fin_V xs e
  refine (congrArg (fun t => Jd l (lcV false vs Fi T yes Fe) t (pV l1)) ?_).mp this
  congr 1
  funext ds
  congr 1
  funext _
  congr 1
  rw [← mapF_some]
  congr 1
  funext d
  rw [S.bind_assoc]
  rfl
theorem e_lcF (vs : List Nat) (hi : Jd l Fi tw (pL l1)) (hw : wipeE l1 vs = l1) (hT : ∀ d, Jd l1 (T (.dat d)) (u d) (pTc l1 e')) (hC : ∀ s, Jd (e' s) C (tC s) (pB (e' s))) (he : ∀ s, Jd (e' s) Fe (te s) (pV (e' s))) :
    Jd l (lcV false vs Fi T C Fe) (tw.bind fun ds => (S.lift (szD ds)).bind fun _ => (S.mapF (fun d => S.noEx ((u d).bind fun s => (tC s).bind fun z => if z = true then (te s).bind fun x => S.ret (some x) else S.ret none)) ds).bind fun xs => S.ret (.list xs)) (pV l1) :=
  lc_core (m := false) (T := T) (C := C) (Fe := Fe) hi hw (fun rest ρ d k μ e => lc_item hT hC he d k μ e) PyData.list (pV l1) fun k rest ρ μ xs e => fin_V xs e
/-! ### for -/
variable {B : Rho → M Out} {h : σ → En}
theorem for_run {tb : σ → PyData → S σ} {rest : Mu} {ρ0 : Rho} (hb : ∀ s d, Jd (h s) (fun ρ => (T (.dat d) ρ).bind B) (tb s d) (pN h)) : ∀ (ds : List PyData) (s : σ) (k : Dk) (ρ : Rho) (μ : Mu), EnvR (h s) k rest ρ μ → Jl k rest ρ0 μ (loopG T B ds ρ) (S.foldM tb ds s) (pN h)
  | [], s, k, ρ, μ, e => Jl.ret ⟨ρ, rfl, e⟩
  | d :: ds, s, k, ρ, μ, e => by
    refine Jl.eqM (m := ((T (.dat d) ρ).bind B).bind fun o => match o with | .nx ρ2 => loopG T B ds ρ2 | .ct ρ2 => loopG T B ds ρ2 | .bk ρ2 => M.ret (.nx ρ2) | .rt s => M.ret (.rt s)) ?_ ?_
    · have := hb s d k rest ρ μ e
      refine Jl.bind (P := fun k rest _ μ a s => ∃ ρ', a = .nx ρ' ∧ EnvR (h s) k rest ρ' μ) (fun r k' q => this r k' q) fun k1 μ1 a s1 ⟨ρ1, z, e1⟩ => ?_
      subst z
      exact for_run hb ds s1 k1 ρ1 μ1 e1
    · exact (M.assoc _ _ _).symm
theorem s_for' {tb : σ → PyData → S σ} (s0 : σ) (hi : Jd l Fi tw (pL l1)) (w : Wkn l1 (h s0)) (hb : ∀ s d, Jd (h s) (fun ρ => (T (.dat d) ρ).bind B) (tb s d) (pN h)) : Jd l (gFor Fi T B) (tw.bind fun ds => S.foldM tb ds s0) (pN h) := fun k rest ρ μ e => by
  refine (hi k rest ρ μ e).bind fun k1 μ1 a ds ⟨z, e1⟩ => ?_
  subst z
  exact for_run hb a s0 k1 ρ μ1 (e1.weak w)
def S.foldF (f : σ → PyData → S (Fl σ)) : List PyData → σ → S (Fl σ)
  | [], s => S.ret (.nx s)
  | d :: ds, s => (f s d).bind fun o => match o with
    | .nx s' => S.foldF f ds s'
    | .ct s' => S.foldF f ds s'
    | .bk s' => S.ret (.nx s')
    | .rt d => S.ret (.rt d)
theorem forF_run {tb : σ → PyData → S (Fl σ)} {rest : Mu} {ρ0 : Rho} (hb : ∀ s d, Jd (h s) (fun ρ => (T (.dat d) ρ).bind B) (tb s d) (pS true h)) : ∀ (ds : List PyData) (s : σ) (k : Dk) (ρ : Rho) (μ : Mu), EnvR (h s) k rest ρ μ → Jl k rest ρ0 μ (loopG T B ds ρ) (S.foldF tb ds s) (pS true h)
  | [], s, k, ρ, μ, e => Jl.ret ⟨rfl, e⟩
  | d :: ds, s, k, ρ, μ, e => by
    refine Jl.eqM (m := ((T (.dat d) ρ).bind B).bind fun o => match o with | .nx ρ2 => loopG T B ds ρ2 | .ct ρ2 => loopG T B ds ρ2 | .bk ρ2 => M.ret (.nx ρ2) | .rt s => M.ret (.rt s)) ?_ ?_
    · have := hb s d k rest ρ μ e
      refine Jl.bind (P := pS true h) (fun r k' q => this r k' q) fun k1 μ1 a s1 p => ?_
      unfold pS at p
      split at p
      · exact forF_run hb ds _ k1 _ μ1 p.2
      · exact Jl.ret p
      · exact Jl.ret ⟨rfl, p⟩
      · exact forF_run hb ds _ k1 _ μ1 p
      · exact p.elim
    · exact (M.assoc _ _ _).symm
theorem s_forF {tb : σ → PyData → S (Fl σ)} (s0 : σ) (hi : Jd l Fi tw (pL l1)) (w : Wkn l1 (h s0)) (hb : ∀ s d, Jd (h s) (fun ρ => (T (.dat d) ρ).bind B) (tb s d) (pS true h)) : Jd l (gFor Fi T B) (tw.bind fun ds => S.foldF tb ds s0) (pS true h) := fun k rest ρ μ e => by
  refine (hi k rest ρ μ e).bind fun k1 μ1 a ds ⟨z, e1⟩ => ?_
  subst z
  exact forF_run hb a s0 k1 ρ μ1 (e1.weak w)
/-- the target and the body -/
theorem b_tg {β : Type} {P : Dk → Mu → Mu → Out → β → Prop} {tb : σ → S β} (d : PyData) (hT : Jd l (T (.dat d)) (u d) (pT e')) (hb : ∀ s, Jd (e' s) B (tb s) fun k rest _ μ a b => P k rest μ a b) : Jd l (fun ρ => (T (.dat d) ρ).bind B) ((u d).bind tb) fun k rest _ μ a b => P k rest μ a b := fun k rest ρ μ e => by
  refine (hT k rest ρ μ e).bind fun k1 μ1 a s e1 => ?_
  exact hb s k1 rest a μ1 e1
/-! ### while -/
def S.itW (c : σ → S Bool) (f : σ → S σ) : Nat → σ → S σ
  | 0, _ => S.fail
  | n + 1, s => (c s).bind fun z => if z = true then (f s).bind fun s' => S.itW c f n s' else S.ret s
theorem while_run {F : Rho → M Bool} {c : σ → S Bool} {f : σ → S σ} {rest : Mu} {ρ0 : Rho} (hc : ∀ s, Jd (h s) F (c s) (pB (h s))) (hb : ∀ s, Jd (h s) B (f s) (pN h)) : ∀ (n : Nat) (s : σ) (k : Dk) (ρ : Rho) (μ : Mu), EnvR (h s) k rest ρ μ → Jl k rest ρ0 μ (loopW F B n ρ) (S.itW c f n s) (pN h)
  | 0, s, k, ρ, μ, e => fun r k' z => nomatch z
  | n + 1, s, k, ρ, μ, e => by
    have h1 := hc s k rest ρ μ e
    refine Jl.bind (P := fun k rest _ μ a b => a = b ∧ EnvR (h s) k rest ρ μ) (fun r k' q => h1 r k' q) fun k1 μ1 a b ⟨z, e1⟩ => ?_
    subst z
    refine Jl.ite ?_ (Jl.ret ⟨ρ, rfl, e1⟩)
    have h2 := hb s k1 rest ρ μ1 e1
    refine Jl.bind (P := fun k rest _ μ a s => ∃ ρ', a = .nx ρ' ∧ EnvR (h s) k rest ρ' μ) (fun r k' q => h2 r k' q) fun k2 μ2 a s2 ⟨ρ2, z, e2⟩ => ?_
    subst z
    exact while_run hc hb n s2 k2 ρ2 μ2 e2
theorem s_whl {F : Rho → M Bool} {c : σ → S Bool} {f : σ → S σ} (n : Nat) (s0 : σ) (w : Wkn l (h s0)) (hc : ∀ s, Jd (h s) F (c s) (pB (h s))) (hb : ∀ s, Jd (h s) B (f s) (pN h)) : Jd l (loopW F B n) (S.itW c f n s0) (pN h) := fun k rest ρ μ e => while_run hc hb n s0 k ρ μ (e.weak w)
end
end
end Pf

namespace Pf
open PySem PySem.Spec PyProof.Rows L2
/-! ### own functions -/
def intsOf : List Sv → Option (List Int)
  | [] => some []
  | .dat (.int i) :: r => (intsOf r).map (i :: ·)
  | _ => none
theorem intsOf_map : ∀ cs : List Int, intsOf (cs.map svI) = some cs
  | [] => rfl
  | c :: cs => by
    show (intsOf (cs.map svI)).map (c :: ·) = _
    rw [intsOf_map cs]
    rfl
theorem intsOf_eq : ∀ {xs : List Sv} {cs : List Int}, intsOf xs = some cs → xs = cs.map svI
  | [], _, h => by
    cases h
    rfl
  | .dat (.int i) :: r, cs, h => by
    have h' : (intsOf r).map (i :: ·) = some cs := h
    cases q : intsOf r with
    | none =>
      rw [q] at h'
      cases h'
    | some z =>
      rw [q] at h'
      cases h'
      rw [intsOf_eq q]
      rfl
  | .dat .none :: _, _, h => nomatch h
  | .dat (.bool _) :: _, _, h => nomatch h
  | .dat (.str _) :: _, _, h => nomatch h
  | .dat (.list _) :: _, _, h => nomatch h
  | .dat (.tuple _) :: _, _, h => nomatch h
  | .dat (.dict _) :: _, _, h => nomatch h
  | .ref _ :: _, _, h => nomatch h
  | .scr _ :: _, _, h => nomatch h
def parse : Mu → Option (Dk × Mu)
  | .lst xs :: .lst [.ref 0, .dat (.int n)] :: rest => (intsOf xs).map fun cs => (⟨cs, n, none⟩, rest)
  | .lst xs :: .lst [.dat (.list ds), .dat (.int n), .ref 0] :: rest => (intsOf xs).bind fun cs => (asInts ds).map fun c => (⟨cs, n, some c⟩, rest)
  | _ => none
theorem parse_dk (k : Dk) (rest : Mu) : parse (dkO k ++ rest) = some (k, rest) := by
  obtain ⟨cs, n, ce⟩ := k
  cases ce with
  | none =>
    show (intsOf (cs.map svI)).map _ = _
    rw [intsOf_map]
    rfl
  | some c =>
    show (intsOf (cs.map svI)).bind (fun cs => (asInts (c.map .int)).map _) = _
    rw [intsOf_map, ints_map]
    rfl
theorem parse_eq {μ rest : Mu} {k : Dk} (h : parse μ = some (k, rest)) : μ = dkO k ++ rest := by
  unfold parse at h
  split at h
  · rename_i xs n rest'
    cases q : intsOf xs with
    | none =>
      rw [q] at h
      cases h
    | some z =>
      rw [q] at h
      cases h
      rw [intsOf_eq q]
      rfl
  · rename_i xs ds n rest'
    cases q : intsOf xs with
    | none =>
      rw [q] at h
      cases h
    | some z =>
      cases q2 : asInts ds with
      | none =>
        rw [q, q2] at h
        cases h
      | some y =>
        rw [q, q2] at h
        cases h
        rw [intsOf_eq q, asInts_eq q2]
        rfl
  · cases h
def upR (k : Dk) (rest : Mu) : Rs PyData → Res Sv
  | .ok d => .ok (.dat d) (dkO k ++ rest)
  | .ex c => .ex c.up (dkO k ++ rest)
def liftF (T : List PyData → S PyData) (ss : List Sv) : M Sv := fun μ => match parse μ, dats ss with
  | some (k, rest), some ds => match T ds k with
    | some (r, k') => some (upR k' rest r)
    | none => none
  | _, _ => none
def liftD (T : List PyData → S PyData) (ss : List Sv) : M Sv := match ss with
  | .ref 1 :: r => liftF T r
  | _ => M.fail
def u1 (T : PyData → S PyData) : List PyData → S PyData
  | [a] => T a
  | _ => S.fail
def u2 (T : PyData → PyData → S PyData) : List PyData → S PyData
  | [a, b] => T a b
  | _ => S.fail
def u3 (T : PyData → PyData → PyData → S PyData) : List PyData → S PyData
  | [a, b, c] => T a b c
  | _ => S.fail
def u4 (T : PyData → PyData → PyData → PyData → S PyData) : List PyData → S PyData
  | [a, b, c, d] => T a b c d
  | _ => S.fail
section
variable {l l1 l2 l3 l4 : En} {Fa Fb Fc Fd : Rho → M Sv} {ta tb tc td : S PyData}
theorem EnvR.deck {k k' : Dk} {rest g : Mu} {ρ : Rho} (h : EnvR l k rest ρ (dkO k ++ rest ++ g)) : EnvR l k' rest ρ (dkO k' ++ rest ++ g) := by
  refine ⟨⟨g, rfl⟩, h.len, fun i x e => ?_, h.inj⟩
  obtain ⟨s, e1, e2⟩ := h.at_ i x e
  refine ⟨s, e1, ?_⟩
  cases x with
  | im d => exact e2
  | dk => exact e2
  | mt ds =>
    obtain ⟨t, a, b, c⟩ := e2
    refine ⟨t, a, b, ?_⟩
    have hb : (dkO k ++ rest).length ≤ t := by rw [List.length_append]; exact b
    have hb' : (dkO k' ++ rest).length ≤ t := by rw [List.length_append]; exact b
    rw [List.getElem?_append_right hb] at c
    rw [List.getElem?_append_right hb']
    have : (dkO k' ++ rest).length = (dkO k ++ rest).length := by rw [List.length_append, List.length_append]; rfl
    rw [this]
    exact c
/-- a call, its arguments being known -/
theorem lift_run {T : List PyData → S PyData} {ds : List PyData} {ss : List Sv} {k : Dk} {rest : Mu} {ρ : Rho} {μ : Mu} (e : EnvR l k rest ρ μ) (hs : dats ss = some ds) : Jl k rest ρ μ (liftF T ss) (T ds) (pV l) := by
  intro r k' q
  obtain ⟨g, hg⟩ := e.pre
  subst hg
  have hp : parse (dkO k ++ rest ++ g) = some (k, rest ++ g) := by
    rw [List.append_assoc]
    exact parse_dk k _
  have z : liftF T ss (dkO k ++ rest ++ g) = some (upR k' (rest ++ g) r) := by
    unfold liftF
    rw [hp, hs]
    dsimp only
    rw [q]
  cases r with
  | ok d => exact ⟨_, dkO k' ++ rest ++ g, by rw [z, List.append_assoc]; rfl, rfl, e.deck⟩
  | ex c => exact ⟨g, by rw [z, List.append_assoc]; rfl⟩
theorem call_args {Fm : List Sv → M Sv} {n : Nat} {Fs : Rho → M (List Sv)} {ts : S (List PyData)} {T : List PyData → S PyData} (hF : ∀ k rest ρ μ ds, EnvR l1 k rest ρ μ → ds.length = n → Jl k rest ρ μ (Fm (ds.map Sv.dat)) (T ds) (pV l1)) (h : Jd l Fs ts (pA n l1)) :
    Jd l (callF Fm n Fs) (ts.bind T) (pV l1) := fun k rest ρ μ e => by
  refine (h k rest ρ μ e).bind fun k1 μ1 as ds ⟨z, hl, e1⟩ => ?_
  subst z
  rw [List.length_map, hl, decide_eq_true rfl, if_pos rfl]
  exact hF k1 rest ρ μ1 ds e1 hl
theorem e_call {n : Nat} {Fs : Rho → M (List Sv)} {ts : S (List PyData)} {T : List PyData → S PyData} (h : Jd l Fs ts (pA n l1)) : Jd l (callF (liftF T) n Fs) (ts.bind T) (pV l1) :=
  call_args (fun k rest ρ μ ds e _ => lift_run e (dats_map ds)) h
/-- a call that hands the deck over -/
theorem e_callD {n : Nat} {Fs : Rho → M (List Sv)} {ts : S (List PyData)} {T : List PyData → S PyData} (i : Nat) (hi : l[i]? = some (some .dk)) (h : Jd l Fs ts (pA n l1)) : Jd l (callF (liftD T) (n + 1) (argC (slot i) Fs)) (ts.bind T) (pV l1) := fun k rest ρ μ e => by
  obtain ⟨s, h1, h2⟩ := e.at_ i _ hi
  cases h2
  intro r k' q
  have z : callF (liftD T) (n + 1) (argC (slot i) Fs) ρ μ = ((Fs ρ).bind fun ss => if decide ((Sv.ref 1 :: ss).length = n + 1) = true then liftF T ss else M.fail) μ := by
    unfold callF argC
    rw [M.assoc, bind_ok (slot_at μ h1), M.assoc]
    rfl
  rw [z]
  refine ((h k rest ρ μ e).bind fun k1 μ1 as ds ⟨z, hl, e1⟩ => ?_) r k' q
  subst z
  rw [List.length_cons, List.length_map, hl]
  show Jl _ _ _ _ (if decide (n + 1 = n + 1) = true then _ else _) _ _
  rw [decide_eq_true rfl, if_pos rfl]
  exact lift_run e1 (dats_map ds)
end
/-! ### a body keeps its promise -/
def inE (N : Nat) (ds : List PyData) : En := ds.map (fun d => some (.im d)) ++ List.replicate (N - ds.length) none
theorem inE_env {N : Nat} {ds : List PyData} {k : Dk} {rest : Mu} : EnvR (inE N ds) k rest (ini N (ds.map Sv.dat)) (dkO k ++ rest) := by
  refine ⟨⟨[], by rw [List.append_nil]⟩, ?_, fun i x e => ?_, fun i j xs ys t e1 => ?_⟩
  · unfold ini inE
    simp
  · unfold inE at e
    by_cases hi : i < ds.length
    · rw [List.getElem?_append_left (by rw [List.length_map]; exact hi), List.getElem?_map, List.getElem?_eq_getElem hi] at e
      cases e
      refine ⟨.dat ds[i], ?_, rfl⟩
      unfold ini
      rw [List.getElem?_append_left (by simpa using hi)]
      simp [hi]
    · rw [List.getElem?_append_right (by rw [List.length_map]; omega)] at e
      have := List.eq_of_mem_replicate (List.mem_of_getElem? e)
      cases this
  · unfold inE at e1
    by_cases hi : i < ds.length
    · rw [List.getElem?_append_left (by rw [List.length_map]; exact hi), List.getElem?_map, List.getElem?_eq_getElem hi] at e1
      cases e1
    · rw [List.getElem?_append_right (by rw [List.length_map]; omega)] at e1
      have := List.eq_of_mem_replicate (List.mem_of_getElem? e1)
      cases this
theorem dats_eq : ∀ {ss : List Sv} {ds : List PyData}, dats ss = some ds → ss = ds.map Sv.dat
  | [], _, h => by
    cases h
    rfl
  | .dat d :: r, ds, h => by
    have h' : (dats r).map (d :: ·) = some ds := h
    cases q : dats r with
    | none =>
      rw [q] at h'
      cases h'
    | some z =>
      rw [q] at h'
      cases h'
      rw [dats_eq q]
      rfl
  | .ref _ :: _, _, h => nomatch h
  | .scr _ :: _, _, h => nomatch h
theorem wf_deck {k k' : Dk} {rest : Mu} (h : Wf (dkO k ++ rest)) : Wf (dkO k' ++ rest) := fun i xs e t ht => by
  have hl : (dkO k' ++ rest).length = (dkO k ++ rest).length := by rw [List.length_append, List.length_append]; rfl
  rw [hl]
  match i with
  | 0 =>
    have : xs = k'.cs.map svI := by
      cases e
      rfl
    subst this
    obtain ⟨c, _, z⟩ := List.mem_map.mp ht
    cases z
  | 1 =>
    have : xs = dkI k' := by
      cases e
      rfl
    subst this
    rw [List.length_append]
    show t < 2 + rest.length
    unfold dkI at ht
    split at ht
    · rcases List.mem_cons.mp ht with z | z
      · cases z
        omega
      · have := List.mem_singleton.mp z
        cases this
    · rcases List.mem_cons.mp ht with z | z
      · cases z
      · rcases List.mem_cons.mp z with z | z
        · cases z
        · have := List.mem_singleton.mp z
          cases this
          omega
  | i + 2 => exact h (i + 2) xs e t ht
theorem agree_T {N n : Nat} {G : Rho → M Out} {T : List PyData → S PyData} {l : List PyData → En} (pre : List Sv) (h : ∀ ds, ds.length = n → Jd (l ds) G (T ds) pE) (hl : ∀ ds k rest, ds.length = n → EnvR (l ds) k rest (ini N (pre ++ ds.map Sv.dat)) (dkO k ++ rest)) (ss : List Sv) (μ : Mu) (r : Res Sv) (hs : ss.length = n) (wf : Wf μ) (e : liftF T ss μ = some r) :
    ∃ r', G (ini N (pre ++ ss)) μ = some r' ∧ Agree μ.length r r' := by
  unfold liftF at e
  cases hp : parse μ with
  | none =>
    rw [hp] at e
    cases e
  | some z =>
    obtain ⟨k, rest⟩ := z
    cases hd : dats ss with
    | none =>
      rw [hp, hd] at e
      cases e
    | some ds =>
      rw [hp, hd] at e
      dsimp only at e
      cases ht : T ds k with
      | none =>
        rw [ht] at e
        cases e
      | some z =>
        obtain ⟨r0, k'⟩ := z
        rw [ht] at e
        cases e
        have hm := parse_eq hp
        have hss := dats_eq hd
        subst hm hss
        rw [List.length_map] at hs
        have main := h ds hs k rest _ _ (hl ds k rest hs) r0 k' ht
        have hle : (dkO k ++ rest).length ≤ (dkO k' ++ rest).length := by rw [List.length_append, List.length_append]; exact Nat.le_refl _
        cases r0 with
        | ok d =>
          obtain ⟨a, μ', w, p, g, hg⟩ := main
          refine ⟨_, w, ?_⟩
          rcases p with rfl | ⟨ρ', rfl, rfl⟩
          · exact ⟨rfl, ⟨g, hg⟩, wf_deck wf, hle, trivial⟩
          · exact ⟨rfl, ⟨g, hg⟩, wf_deck wf, hle⟩
        | ex c =>
          obtain ⟨g, w⟩ := main
          refine ⟨_, w, rfl, ⟨g, rfl⟩, wf_deck wf, hle, fun f s hf => ?_⟩
          obtain ⟨C, fl⟩ := c
          cases fl with
          | none => cases hf
          | some p =>
            cases hf
            trivial
theorem same_T {N n : Nat} {G : Rho → M Out} {T : List PyData → S PyData} (h : ∀ ds, ds.length = n → Jd (inE N ds) G (T ds) pE) (ss : List Sv) (μ : Mu) (r : Res Sv) (hs : ss.length = n) (wf : Wf μ) (e : liftF T ss μ = some r) :
    ∃ r', G (ini N ss) μ = some r' ∧ Agree μ.length r r' := agree_T (N := N) [] h (fun ds k rest _ => inE_env) ss μ r hs wf e
def inD (N : Nat) (ds : List PyData) : En := some .dk :: inE (N - 1) ds
theorem inD_env {N : Nat} {ds : List PyData} {k : Dk} {rest : Mu} (hN : 0 < N) : EnvR (inD N ds) k rest (ini N (.ref 1 :: ds.map Sv.dat)) (dkO k ++ rest) := by
  have hi : ini N (.ref 1 :: ds.map Sv.dat) = some (.ref 1) :: ini (N - 1) (ds.map Sv.dat) := by
    unfold ini
    rw [List.map_cons, List.cons_append, List.length_cons, show N - ((ds.map Sv.dat).length + 1) = N - 1 - (ds.map Sv.dat).length by omega]
  rw [hi]
  have h := inE_env (N := N - 1) (ds := ds) (k := k) (rest := rest)
  refine ⟨h.pre, by unfold inD; rw [List.length_cons, List.length_cons, h.len], fun i x e => ?_, fun i j xs ys t e1 e2 e3 e4 => ?_⟩
  · cases i with
    | zero =>
      cases e
      exact ⟨_, rfl, rfl⟩
    | succ i => exact h.at_ i x e
  · cases i with
    | zero => cases e1
    | succ i =>
      cases j with
      | zero => cases e2
      | succ j => rw [h.inj i j xs ys t e1 e2 e3 e4]
theorem same_D {N n : Nat} (hN : 0 < N) {G : Rho → M Out} {T : List PyData → S PyData} (h : ∀ ds, ds.length = n → Jd (inD N ds) G (T ds) pE) (ss : List Sv) (μ : Mu) (r : Res Sv) (hs : ss.length = n + 1) (wf : Wf μ) (e : liftD T ss μ = some r) :
    ∃ r', G (ini N ss) μ = some r' ∧ Agree μ.length r r' := by
  unfold liftD at e
  split at e
  · rename_i r0
    exact agree_T (N := N) [.ref 1] h (fun ds k rest _ => inD_env hN) _ μ r (by simpa using hs) wf e
  · cases e
theorem len1 {ds : List PyData} (h : ds.length = 1) : ∃ a, ds = [a] := by
  match ds, h with
  | [a], _ => exact ⟨a, rfl⟩
theorem len2 {ds : List PyData} (h : ds.length = 2) : ∃ a b, ds = [a, b] := by
  match ds, h with
  | [a, b], _ => exact ⟨a, b, rfl⟩
theorem len3 {ds : List PyData} (h : ds.length = 3) : ∃ a b c, ds = [a, b, c] := by
  match ds, h with
  | [a, b, c], _ => exact ⟨a, b, c, rfl⟩
theorem len4 {ds : List PyData} (h : ds.length = 4) : ∃ a b c d, ds = [a, b, c, d] := by
  match ds, h with
  | [a, b, c, d], _ => exact ⟨a, b, c, d, rfl⟩
end Pf

namespace Pf
open PySem PySem.Spec PyProof.Rows L2
/-! any, all of lists of bools; enumerate of a list or tuple -/
def asBools : List PyData → Option (List Bool)
  | [] => some []
  | .bool b :: r => (asBools r).map (b :: ·)
  | _ :: _ => none
theorem asBools_eq : ∀ {ds : List PyData} {bs : List Bool}, asBools ds = some bs → ds = bs.map PyData.bool
  | [], _, h => by
    cases h
    rfl
  | .bool b :: r, bs, h => by
    have h' : (asBools r).map (b :: ·) = some bs := h
    cases q : asBools r with
    | none =>
      rw [q] at h'
      cases h'
    | some z =>
      rw [q] at h'
      cases h'
      rw [asBools_eq q]
      rfl
  | .none :: _, _, h => nomatch h
  | .int _ :: _, _, h => nomatch h
  | .str _ :: _, _, h => nomatch h
  | .list _ :: _, _, h => nomatch h
  | .tuple _ :: _, _, h => nomatch h
  | .dict _ :: _, _, h => nomatch h
theorem asBools_map : ∀ bs : List Bool, asBools (bs.map PyData.bool) = some bs
  | [] => rfl
  | b :: bs => by
    show (asBools (bs.map PyData.bool)).map (b :: ·) = _
    rw [asBools_map bs]
    rfl
section
variable {X : Cx} {E : XK} {a : Expr} {Fa : Rho → M Sv} {p pos tpos : Pos}
theorem dqs_bools {K : PySem.W.Frag} {H : Hp} : ∀ {vs : List V} {bs : List Bool}, Dqs K H vs (bs.map PyData.bool) → vs = bs.map V.bl
  | _, [], .nil => rfl
  | _, b :: bs, .cons h r => by
    cases h
    rw [dqs_bools r]
    rfl
def bBool (f : List Bool → Bool) (ss : List Sv) : M Sv := match ss with
  | [s] => (rd s).bind fun d => match d with
    | .list ds => (orFail (asBools ds)).bind fun bs => M.ret (.dat (.bool (f bs)))
    | _ => M.fail
  | _ => M.fail
theorem bool_ent {f : List Bool → Bool} {xs : List V} {H : Hp} {Q : VK} (h : rC X.K E (bBool f) xs H Q) : ∃ (a : Addr) (bs : List Bool), xs = [V.ref a] ∧ SqL X.K H a (bs.map V.bl) ∧ Q (.bl (f bs)) H := by
  obtain ⟨W, μ, ss, r, R, rs, e, q⟩ := h
  unfold bBool at e
  split at e
  · obtain ⟨x, rfl, h⟩ := rels1 rs
    obtain ⟨d, e1, e⟩ := rd_bind e
    obtain ⟨d', z1, h1⟩ := rd_rel R h e1
    cases z1
    split at e
    · obtain ⟨bs, e2, e⟩ := orFail_some e
      cases e
      have z := asBools_eq e2
      subst z
      cases h1 with
      | lst h2 r2 =>
        rw [dqs_bools r2] at h2
        exact ⟨_, bs, rfl, SqL.of h2, q _ _ (Grow.refl _ _ _) R _ (.bl _)⟩
    · cases e
  · cases e
abbrev bAny := bBool fun bs => bs.any id
theorem b_any (hc : X.calm = true := by rfl) : CallR X (.builtin "any") (rC X.K E bAny) := callr_weak (cr_any hc) fun xs H Q h => bool_ent h
theorem wk_enuL {K : PySem.W.Frag} {W : Wd} {a : Addr} {vs : List V} {ds : List PyData} (h : W.S a = some (.lst vs)) (r : Dqs K W.S vs ds) : Wk K (Ite K a) W (enuD ds) where
  go := fun i d W1 H μ g R e => by
    obtain ⟨y, e2, rfl⟩ := enu_at e
    obtain ⟨v, a1, _⟩ := r.getD e2
    exact ⟨vs, v, SqL.of (R.sub _ _ (g _ _ h)), a1⟩
  yld := fun i d W1 H μ x H' g R e y => by
    obtain ⟨z, e2, rfl⟩ := enu_at e
    obtain ⟨T, x1, rfl, nT, rfl, f1⟩ := y
    obtain ⟨v, a1, q1⟩ := r.getD e2
    have z1 := f1 vs (SqL.of (R.sub _ _ (g _ _ h)))
    rw [a1] at z1
    cases z1
    exact pair_new R nT (.int _) (Dq.mono g q1)
  stop := fun i W1 H μ g R e => ⟨vs, SqL.of (R.sub _ _ (g _ _ h)), by rw [r.len, ← enu_len]; exact e⟩
theorem pi_or {tg e : Expr} {t1 t2 : TI} (h1 : PI X tg e t1) (h2 : PI X tg e t2) : PI X tg e fun σ H R => t1 σ H R ∨ t2 σ H R := ⟨fun pins s σ H Q I q => q.elim (h1.run pins s σ H Q I) (h2.run pins s σ H Q I)⟩
def enuL (Fa : Rho → M Sv) (ρ : Rho) : M (List PyData) := (Fa ρ).bind fun s => match s with
  | .dat (.list ds) => M.ret (enuD ds)
  | _ => M.fail
theorem i_enuL {elts : List Expr} {kk : Nat} (hc : X.calm = true) (hm : X.mg "enumerate" = none) (ha : PX X E a Fa) (hg : Gl X "enumerate" := by rfl) (hs : starEach [a] X.env = (false, eval a X.env) :: starEach [] X.env := by rfl) (hs2 : starEach [a] X.env = [(false, eval a X.env)] := by rfl) :
    PIX X E (.Tuple elts kk tpos) (.Call (.Name "enumerate" p) [a] [] pos) (enuL Fa) := pi_weak (pi_enum hg hm (pa_cons ha pa_nil hs) hs2) fun σ H R ⟨W, ρ, μ, r, h, e, q⟩ => by
  refine tX_bind h e q fun v s W1 H1 μ1 g1 h1 rs e1 q1 => ?_
  split at e1
  · cases e1
    cases rs with
    | lst z1 y1 => exact ⟨_, _, rfl, SqL.of (h1.rel.sub _ _ z1), q1 _ _ (Grow.refl _ _ _) h1.rel _ (wk_enuL z1 y1)⟩
  · cases e1
def enuA (Fa : Rho → M Sv) (ρ : Rho) : M (List PyData) := (Fa ρ).bind fun s => match s with
  | .dat (.list ds) => M.ret (enuD ds)
  | .dat (.tuple ds) => M.ret (enuD ds)
  | _ => M.fail
theorem i_enuA {elts : List Expr} {kk : Nat} (hc : X.calm = true) (hm : X.mg "enumerate" = none) (ha : PX X E a Fa) (hg : Gl X "enumerate" := by rfl) (hs : starEach [a] X.env = (false, eval a X.env) :: starEach [] X.env := by rfl) (hs2 : starEach [a] X.env = [(false, eval a X.env)] := by rfl) :
    PIX X E (.Tuple elts kk tpos) (.Call (.Name "enumerate" p) [a] [] pos) (enuA Fa) := pi_weak (pi_or (i_enuL (tpos := tpos) (elts := elts) (kk := kk) hc hm ha hg hs hs2) (i_enu hc hm ha hg hs hs2)) fun σ H R ⟨W, ρ, μ, r, h, e, q⟩ => by
  rcases bind_some e with ⟨s, μ1, e1, e2⟩ | ⟨c, μ1, e1, rfl⟩
  · split at e2
    · refine .inl ⟨W, ρ, μ, r, h, ?_, q⟩
      unfold enuL
      rw [bind_ok e1]
      exact e2
    · refine .inr ⟨W, ρ, μ, r, h, ?_, q⟩
      unfold enuV
      rw [bind_ok e1]
      exact e2
    · cases e2
  · exact .inl ⟨W, ρ, μ, _, h, bind_ex e1, q⟩
end
end Pf

namespace Pf
open PySem PySem.Spec PyProof.Rows L2
/-! ### operators of data -/
def oAdd : PyData → PyData → Option PyData
  | .int i, .int j => some (.int (i + j))
  | .tuple xs, .tuple ys => if xs.length + ys.length ≤ 1000000 then some (.tuple (xs ++ ys)) else none
  | .str x, .str y => if x.length + y.length ≤ 1000000 then some (.str (x ++ y)) else none
  | .list xs, .list ys => if xs.length + ys.length ≤ 1000000 then some (.list (xs ++ ys)) else none
  | _, _ => none
def oSub : PyData → PyData → Option PyData
  | .int i, .int j => some (.int (i - j))
  | _, _ => none
def oMod : PyData → PyData → Option PyData
  | .int i, .int j => if 0 < j then some (.int (i % j)) else none
  | _, _ => none
def oPow : PyData → PyData → Option PyData
  | .int i, .int j => if 0 ≤ j ∧ j ≤ 1000000 ∧ i.natAbs < 2 ^ 64 then some (.int (i ^ j.toNat)) else none
  | _, _ => none
def cCmp (f : Int → Int → Bool) : PyData → PyData → Option Bool
  | .int i, .int j => some (f i j)
  | _, _ => none
abbrev cLt := cCmp fun i j => decide (i < j)
abbrev cLe := cCmp fun i j => decide (i ≤ j)
abbrev cGt := cCmp fun i j => decide (j < i)
def cEqn (n : Bool) : PyData → PyData → Option Bool
  | .str x, .str y => some (Bool.xor n (decide (x = y)))
  | .int x, .int y => some (Bool.xor n (decide (x = y)))
  | a, b => if (SeqAt.shaped a && SeqAt.shaped b) = true then some (Bool.xor n (PyData.eqv a b)) else none
abbrev cEq := cEqn false
abbrev cNe := cEqn true
def isNone : PyData → Bool
  | .none => true
  | _ => false
def cIs (n : Bool) (a b : PyData) : Option Bool := match b with
  | .none => some (Bool.xor n (isNone a))
  | _ => none
def cIn (a b : PyData) : Option Bool := match b with
  | .list ds => if (SeqAt.shaped a && SeqAt.shaped (.list ds)) = true then some (ds.any fun z => PyData.eqv z a) else none
  | .tuple ds => if (PyData.plainAll ds && (a.plain && decide (a.depth ≤ 60))) = true then some (ds.any fun z => PyData.eqv z a) else none
  | _ => none
def oIx : PyData → PyData → Option PyData
  | .list xs, .int i => atI xs i
  | .tuple xs, .int i => atI xs i
  | _, _ => none
def noList : PyData → Bool
  | .list _ => false
  | _ => true
theorem Rdr.nl {μ : Mu} {s : Sv} {d : PyData} (h : Rdr μ s d) (hd : noList d = true) : s = .dat d := h.imm fun ds z => by
  rw [z] at hd
  cases hd
theorem op_add' : Op2 (pAdd false) oAdd := fun a b da db d μ ra rb e => by
  unfold oAdd at e
  split at e
  · rw [ra.nl rfl, rb.nl rfl]
    cases e
    rfl
  · rw [ra.nl rfl, rb.nl rfl]
    split at e
    · rename_i hs
      cases e
      show (if _ = true then _ else _ : M Sv) μ = _
      rw [if_pos (show szOk _ = true from decide_eq_true hs)]
      rfl
    · cases e
  · rw [ra.nl rfl, rb.nl rfl]
    split at e
    · rename_i hs
      cases e
      show (if _ = true then _ else _ : M Sv) μ = _
      rw [if_pos (show szOk _ = true from decide_eq_true hs)]
      rfl
    · cases e
  · rename_i xs ys
    split at e
    · rename_i hs
      cases e
      have h2 := rb.ls
      have fin : ∀ m : M Sv, (m = if szOk ((xs.map Sv.dat).length + (ys.map Sv.dat).length) = true then mkl false (xs.map Sv.dat ++ ys.map Sv.dat) else M.fail) → m μ = some (.ok (.dat (.list (xs ++ ys))) μ) := fun m hm => by
        rw [hm, if_pos (show szOk _ = true from decide_eq_true (by rw [List.length_map, List.length_map]; exact hs)), ← List.map_append]
        exact mkl_dat _ _
      rcases ra with rfl | ⟨t, ds, rfl, q, z⟩
      · show M.bind (lsOf b) _ μ = _
        rw [bind_ok h2]
        exact fin _ (by rw [List.length_map, List.length_map])
      · cases z
        have h1 : lsOf (.ref t) μ = some (.ok (xs.map Sv.dat) μ) := by
          unfold lsOf
          simp only [q]
        show M.bind (lsOf (.ref t)) _ μ = _
        rw [bind_ok h1, bind_ok h2]
        exact fin _ rfl
    · cases e
  · cases e
theorem op_sub' : Op2 pSub oSub := fun a b da db d μ ra rb e => by
  unfold oSub at e
  split at e
  · rw [ra.nl rfl, rb.nl rfl]
    cases e
    rfl
  · cases e
theorem op_mod' : Op2 pMod oMod := fun a b da db d μ ra rb e => by
  unfold oMod at e
  split at e
  · rw [ra.nl rfl, rb.nl rfl]
    split at e
    · rename_i hs
      cases e
      show (if _ = true then _ else _ : M Sv) μ = _
      rw [if_pos (decide_eq_true hs)]
      rfl
    · cases e
  · cases e
theorem op_pow' : Op2 pPow oPow := fun a b da db d μ ra rb e => by
  unfold oPow at e
  split at e
  · rw [ra.nl rfl, rb.nl rfl]
    split at e
    · rename_i hs
      cases e
      show (if _ = true then _ else _ : M Sv) μ = _
      rw [if_pos (by rw [decide_eq_true hs.1, decide_eq_true hs.2.1, decide_eq_true hs.2.2]; rfl)]
      rfl
    · cases e
  · cases e
theorem op_cmp' {f : Int → Int → Bool} : OpB (pCmp f) (cCmp f) := fun a b da db d μ ra rb e => by
  unfold cCmp at e
  split at e
  · rw [ra.nl rfl, rb.nl rfl]
    cases e
    rfl
  · cases e
theorem op_eqn' {n : Bool} : OpB (pEqn n) (cEqn n) := fun a b da db d μ ra rb e => by
  have gen : ∀ {a b : Sv} {da db : PyData}, Rdr μ a da → Rdr μ b db → (if (SeqAt.shaped da && SeqAt.shaped db) = true then some (Bool.xor n (PyData.eqv da db)) else none) = some d → pEqD n a b μ = some (.ok (.dat (.bool d)) μ) := fun {a b da db} ra rb e => by
    split at e
    · rename_i hs
      cases e
      unfold pEqD
      rw [bind_ok ra.rd, bind_ok rb.rd, if_pos hs]
      rfl
    · cases e
  unfold cEqn at e
  split at e
  · rw [ra.nl rfl, rb.nl rfl]
    cases e
    rfl
  · rw [ra.nl rfl, rb.nl rfl]
    cases e
    rfl
  · rename_i h1 h2
    have := gen ra rb e
    unfold pEqn
    split
    · rename_i x y
      rcases ra with z | ⟨t, ds, z, _, _⟩
      · cases z
        rcases rb with z | ⟨t, ds, z, _, _⟩
        · cases z
          exact absurd rfl (h1 x y rfl)
        · cases z
      · cases z
    · rename_i x y
      rcases ra with z | ⟨t, ds, z, _, _⟩
      · cases z
        rcases rb with z | ⟨t, ds, z, _, _⟩
        · cases z
          exact absurd rfl (h2 x y rfl)
        · cases z
      · cases z
    · exact this
theorem isNon_dat (d : PyData) : isNon (.dat d) = isNone d := by cases d <;> rfl
theorem op_is' {n : Bool} : OpB (pIs n) (cIs n) := fun a b da db d μ ra rb e => by
  unfold cIs at e
  split at e
  · rw [rb.nl rfl]
    cases e
    rcases ra with rfl | ⟨t, ds, rfl, _, rfl⟩
    · show some (Res.ok (Sv.dat (.bool (Bool.xor n (isNon (.dat da))))) μ) = _
      rw [isNon_dat]
    · rfl
  · cases e
theorem op_in' : OpB pIn cIn := fun a b da db d μ ra rb e => by
  unfold cIn at e
  split at e
  · split at e
    · rename_i hs
      cases e
      unfold pIn
      rw [bind_ok ra.rd, bind_ok rb.rd]
      dsimp only
      rw [if_pos hs]
      rfl
    · cases e
  · split at e
    · rename_i hs
      cases e
      unfold pIn
      rw [bind_ok ra.rd, bind_ok rb.rd]
      dsimp only
      rw [if_pos hs]
      rfl
    · cases e
  · cases e
theorem op_ix' : Op2 pIx oIx := fun a b da db d μ ra rb e => by
  unfold oIx at e
  split at e
  · rename_i xs i
    rw [rb.nl rfl]
    have hx : atI (xs.map Sv.dat) i = some (.dat d) := atI_map e
    rcases ra with rfl | ⟨t, ds, rfl, q, z⟩
    · simp only [pIx, lsOf, M.bind, hx, orFail, e, Option.map]
    · cases z
      simp only [pIx, lsOf, M.bind, q, hx, orFail, e, Option.map]
  · rename_i xs i
    rw [ra.nl rfl, rb.nl rfl]
    simp only [pIx, M.bind, e, orFail, Option.map, M.ret]
  · cases e
/-! built-ins -/
def oLen : PyData → Option PyData
  | .tuple ds => some (.int ds.length)
  | .list ds => some (.int ds.length)
  | .str x => if x.length ≤ 1000000 then some (.int x.length) else none
  | _ => none
def oMax2 : PyData → PyData → Option PyData
  | .int i, .int j => some (.int (if j > i then j else i))
  | _, _ => none
def oMin2 : PyData → PyData → Option PyData
  | .int i, .int j => some (.int (if j < i then j else i))
  | _, _ => none
def oBest (f : Int → Int → Int) : PyData → Option PyData
  | .list ds => match asInts ds with
    | some (n :: r) => some (.int (r.foldl f n))
    | _ => none
  | .tuple ds => match asInts ds with
    | some (n :: r) => some (.int (r.foldl f n))
    | _ => none
  | _ => none
def oTuple : PyData → Option PyData
  | .list ds => some (.tuple ds)
  | .tuple ds => some (.tuple ds)
  | _ => none
def oList : PyData → Option PyData
  | .list ds => some (.list ds)
  | .tuple ds => some (.list ds)
  | _ => none
def oRepr (d : PyData) : Option PyData := if okShow d = true then some (.str d.shown) else none
theorem bl_repr : Bl1 bRepr oRepr := fun a da d μ ra e => by
  unfold oRepr at e
  split at e
  · rename_i hs
    cases e
    unfold bRepr
    dsimp only
    rw [bind_ok ra.rd, if_pos hs]
    rfl
  · cases e
theorem bl_max2 : Bl2 bMax2 oMax2 := fun da db d μ e => by
  unfold oMax2 at e
  split at e
  · cases e
    rfl
  · cases e
theorem bl_min2 : Bl2 bMin2 oMin2 := fun da db d μ e => by
  unfold oMin2 at e
  split at e
  · cases e
    rfl
  · cases e
theorem bl_len : Bl1 bLen oLen := fun a da d μ ra e => by
  unfold oLen at e
  split at e
  · rw [ra.nl rfl]
    cases e
    rfl
  · rename_i xs
    cases e
    have h := ra.ls
    have : bLen [a] = (lsOf a).bind fun xs => M.ret (.dat (.int xs.length)) := by
      rcases ra with rfl | ⟨t, ds, rfl, q, z⟩ <;> rfl
    rw [this, bind_ok h, List.length_map]
    rfl
  · rw [ra.nl rfl]
    split at e
    · rename_i hs
      cases e
      show (if _ = true then _ else _ : M Sv) μ = _
      rw [if_pos (show szOk _ = true from decide_eq_true hs)]
      rfl
    · cases e
  · cases e
theorem bl_tuple : Bl1 bTuple oTuple := fun a da d μ ra e => by
  unfold oTuple at e
  split at e
  · rename_i xs
    cases e
    have h := ra.ls
    have : bTuple [a] = (lsOf a).bind fun xs => mkt xs := by
      rcases ra with rfl | ⟨t, ds, rfl, q, z⟩ <;> rfl
    rw [this, bind_ok h]
    unfold mkt
    rw [dats_map]
    rfl
  · rw [ra.nl rfl]
    cases e
    rfl
  · cases e
theorem bl_list : Bl1 (bList false) oList := fun a da d μ ra e => by
  unfold oList at e
  split at e
  · rename_i xs
    cases e
    have h := ra.ls
    have : bList false [a] = (lsOf a).bind fun xs => mkl false xs := by
      rcases ra with rfl | ⟨t, ds, rfl, q, z⟩ <;> rfl
    rw [this, bind_ok h]
    exact mkl_dat _ _
  · rw [ra.nl rfl]
    cases e
    exact mkl_dat _ _
  · cases e
theorem bl_best {f : Int → Int → Int} : Bl1 (bBest f) (oBest f) := fun a da d μ ra e => by
  unfold bBest
  dsimp only
  rw [bind_ok ra.rd]
  unfold oBest at e
  split at e
  · rename_i ds
    try dsimp only
    split at e
    · rename_i n r q
      cases e
      rw [bind_ok (show orFail (asInts ds) μ = some (.ok (n :: r) μ) by rw [q]; rfl)]
      rfl
    · cases e
  · rename_i ds
    try dsimp only
    split at e
    · rename_i n r q
      cases e
      rw [bind_ok (show orFail (asInts ds) μ = some (.ok (n :: r) μ) by rw [q]; rfl)]
      rfl
    · cases e
  · cases e
def oAny : PyData → Option PyData
  | .list ds => (asBools ds).map fun bs => .bool (bs.any id)
  | _ => none
theorem bl_bool {f : List Bool → Bool} {o : PyData → Option PyData} (ho : ∀ d, o d = match d with | .list ds => (asBools ds).map fun bs => PyData.bool (f bs) | _ => none) : Bl1 (bBool f) o := fun a da d μ ra e => by
  rw [ho] at e
  split at e
  · rename_i ds
    unfold bBool
    dsimp only
    rw [bind_ok ra.rd]
    cases q : asBools ds with
    | none =>
      rw [q] at e
      cases e
    | some bs =>
      rw [q] at e
      cases e
      dsimp only
      rw [bind_ok (show orFail (asBools ds) μ = some (.ok bs μ) by rw [q]; rfl)]
      rfl
  · cases e
theorem bl_any : Bl1 bAny oAny := bl_bool fun d => by cases d <;> rfl
/-! slices, isinstance, choices of new lists -/
section
variable {l l1 l2 l3 : En} {Fa Fb Fc : Rho → M Sv} {ta tb tc : S PyData}
def oIsi (n : String) (d : PyData) : Option PyData := (kitB (tyN (.dat d)) n).map .bool
theorem e_isi (n : String) (h : Jd l Fa ta (pV l1)) : Jd l (isiV n Fa) (ta.bind fun a => S.lift (oIsi n a)) (pV l1) := fun k rest ρ μ e => by
  refine (h k rest ρ μ e).bind fun k1 μ1 a da ⟨ra, e1⟩ => ?_
  subst ra
  refine Jl.lift fun d q => ⟨.dat d, μ1, ?_, rfl, e1⟩
  unfold oIsi at q
  unfold isi
  cases z : kitB (tyN (.dat da)) n with
  | none =>
    rw [z] at q
    cases q
  | some b =>
    rw [z] at q
    cases q
    rfl
theorem w_enA (h : Jd l Fa ta (pV l1)) : Jd l (enuA Fa) (ta.bind fun a => S.lift ((seqD a).map enuD)) (pL l1) := fun k rest ρ μ e => by
  refine (h k rest ρ μ e).bind fun k1 μ1 a da ⟨z, e1⟩ => ?_
  subst z
  refine Jl.lift fun ds q => ?_
  cases da <;> cases q <;> exact ⟨_, μ1, rfl, rfl, e1⟩
theorem b_tgF {σ τ : Type} {x : Bool} {T : Sv → Rho → M Rho} {B : Rho → M Out} {u : PyData → S σ} {tb : σ → S (Fl τ)} {e' : σ → En} {h : τ → En} (d : PyData) (hT : Jd l (T (.dat d)) (u d) (pT e')) (hb : ∀ s, Jd (e' s) B (tb s) (pS x h)) : Jd l (fun ρ => (T (.dat d) ρ).bind B) ((u d).bind tb) (pS x h) := fun k rest ρ μ e => by
  refine (hT k rest ρ μ e).bind fun k1 μ1 a s e1 => ?_
  exact hb s k1 rest a μ1 e1
theorem r_raise {C f : Str} (h : Jd l Fa ta (pV l1)) {G : Rho → M Out} (hG : G = fun ρ => (Fa ρ).bind fun s => M.thr ⟨C, some (f, s)⟩) : Jd l G (ta.bind fun d => S.thr ⟨C, some (f, d)⟩) pR := fun k rest ρ μ e => by
  subst hG
  refine (h k rest ρ μ e).bind fun k1 μ1 a da ⟨z, e1⟩ => ?_
  subst z
  intro r k' q
  cases q
  obtain ⟨g, hg⟩ := e1.pre
  exact ⟨g, by rw [hg]; rfl⟩
end
end Pf

set_option maxHeartbeats 1000000
namespace Pf
open PySem PySem.Spec PyProof.Rows L2
end Pf

set_option maxHeartbeats 1000000
namespace Pf
open PySem PySem.Spec PyProof.Rows L2
/-! ### indexing -/
theorem oIx_t {α : Type} {f : α → PyData} {xs : List α} {k : Nat} {x : α} (h : xs[k]? = some x) : oIx (.tuple (xs.map f)) (.int (k : Int)) = some (f x) := atI_map (atI_nat h)
theorem oIx_l {α : Type} {f : α → PyData} {xs : List α} {k : Nat} {x : α} (h : xs[k]? = some x) : oIx (.list (xs.map f)) (.int (k : Int)) = some (f x) := atI_map (atI_nat h)
theorem oIx_row {rows : List (Int × Int)} {m : Nat} {r : Int × Int} (h0 : 0 < m) (e : rows[m - 1]? = some r) : oIx (treeD rows) (.int ((m : Int) - 1)) = some (rowD r) := by
  have := oIx_t (f := rowD) e
  rw [show ((m - 1 : Nat) : Int) = (m : Int) - 1 by omega] at this
  exact this
theorem oIx_row0 (r : Int × Int) : oIx (rowD r) (.int 0) = some (.int r.1) := rfl
theorem oIx_row1 (r : Int × Int) : oIx (rowD r) (.int 1) = some (.int r.2) := rfl
theorem oSub_i (i j : Int) : oSub (.int i) (.int j) = some (.int (i - j)) := rfl
theorem oAdd_i (i j : Int) : oAdd (.int i) (.int j) = some (.int (i + j)) := rfl
theorem cNe_i (i j : Int) : cEqn true (.int i) (.int j) = some (!decide (i = j)) := by
  show some (Bool.xor true _) = _
  rw [Bool.true_xor]
theorem cEq_i (i j : Int) : cEqn false (.int i) (.int j) = some (decide (i = j)) := by
  show some (Bool.xor false _) = _
  rw [Bool.false_xor]
theorem cGt_i (i j : Int) : cGt (.int i) (.int j) = some (decide (j < i)) := rfl
theorem cLt_i (i j : Int) : cLt (.int i) (.int j) = some (decide (i < j)) := rfl
theorem cLe_i (i j : Int) : cLe (.int i) (.int j) = some (decide (i ≤ j)) := rfl
theorem appD_ok {ds : List PyData} {d : PyData} (h : ds.length + 1 ≤ 1000000) : appD ds d = some (ds ++ [d]) := if_pos h
theorem oAdd_l {xs ys : List PyData} (h : xs.length + ys.length ≤ 1000000) : oAdd (.list xs) (.list ys) = some (.list (xs ++ ys)) := if_pos h
theorem szD_ok {ds : List PyData} (h : ds.length ≤ 1000000) : szD ds = some ⟨⟩ := if_pos (show szOk ds.length = true from decide_eq_true h)
theorem rngD_ok {n : Nat} (h : n ≤ 1000000000) : rngD (.int (n : Int)) = some (fromTo 0 n) := by
  show (if big62 (n : Int) = true then some (fromTo 0 (n : Int).toNat) else none) = _
  rw [if_pos (big62_small (by omega) (by omega)), Int.toNat_natCast]
theorem fromTo_map (n : Nat) : fromTo 0 n = (List.range n).map mkD := by
  unfold fromTo
  refine List.map_congr_left fun k _ => ?_
  show PyData.int (0 + (k : Int)) = .int k
  rw [Int.zero_add]
theorem S.bind_ex {α β : Type} {m : S α} {u : α → S β} {r : S β} {P : α → Prop} (h : ∃ a, m = S.ret a ∧ P a) (k : ∀ a, P a → u a = r) : m.bind u = r := by
  obtain ⟨a, e, p⟩ := h
  rw [e]
  exact k a p
theorem S.bind_eq {α β : Type} {m : S α} {u : α → S β} {r : S β} {a : α} (h : m = S.ret a) (k : u a = r) : m.bind u = r := by
  rw [h]
  exact k
theorem S.foldM_ex {α σ : Type} {f : σ → α → S σ} (I : Nat → σ → Prop) {xs : List α} {s : σ} (h0 : I 0 s) (st : ∀ (i : Nat) (s : σ) (x : α), I i s → xs[i]? = some x → ∃ s', f s x = S.ret s' ∧ I (i + 1) s') : ∃ s', S.foldM f xs s = S.ret s' ∧ I xs.length s' := by
  have := S.foldM_inv (f := f) I (xs := xs) (s := s) (k := 0) h0 fun i s x hi hx => by
    rw [Nat.zero_add] at hi ⊢
    exact st i s x hi hx
  rwa [Nat.zero_add] at this
theorem S.foldM_bind {α σ β : Type} {f : σ → α → S σ} (I : Nat → σ → Prop) {xs : List α} {s : σ} {u : σ → S β} {r : S β} (h0 : I 0 s) (st : ∀ (i : Nat) (s : σ) (x : α), I i s → xs[i]? = some x → ∃ s', f s x = S.ret s' ∧ I (i + 1) s') (k : ∀ s, I xs.length s → u s = r) : (S.foldM f xs s).bind u = r := S.bind_ex (S.foldM_ex I h0 st) k
theorem S.foldM_eq {α σ : Type} {f : σ → α → S σ} (I : Nat → σ → Prop) {xs : List α} {s r : σ} (h0 : I 0 s) (st : ∀ (i : Nat) (s : σ) (x : α), I i s → xs[i]? = some x → ∃ s', f s x = S.ret s' ∧ I (i + 1) s') (k : ∀ s, I xs.length s → s = r) : S.foldM f xs s = S.ret r := by
  obtain ⟨s', e, h⟩ := S.foldM_ex (f := f) I h0 st
  rw [e, k s' h]
theorem un2_t (a b : PyData) : un2 (.tuple [a, b]) = some (a, b) := rfl
/-! ### ways -/
structure TreeG (rows : List (Int × Int)) : Prop where
  ok : TreeOk rows
  len : rows.length ≤ 11
/-! ### distances -/
end Pf

set_option maxHeartbeats 1000000
namespace Pf
open PySem PySem.Spec PyProof.Rows L2
/-! ### windows -/
def lastD : Option Int → PyData
  | some i => .int i
  | none => .none
def winD (w : Int × Option Int) : PyData := .tuple [.int w.1, lastD w.2]
def winsD (ws : List (Int × Option Int)) : PyData := .tuple (ws.map winD)
def wAt (ws : List (Int × Option Int)) (i : Nat) : Int × Option Int := (ws[i]?).getD (0, none)
theorem wAt_get {ws : List (Int × Option Int)} {i : Nat} (h : i < ws.length) : ws[i]? = some (wAt ws i) := by
  unfold wAt
  rw [List.getElem?_eq_getElem h]
  rfl
theorem oIx_win {ws : List (Int × Option Int)} {i : Nat} (h : i < ws.length) : oIx (winsD ws) (mkD i) = some (winD (wAt ws i)) := oIx_t (wAt_get h)
theorem oIx_w0 (w : Int × Option Int) : oIx (winD w) (.int 0) = some (.int w.1) := rfl
theorem oIx_w1 (w : Int × Option Int) : oIx (winD w) (.int 1) = some (lastD w.2) := rfl
/-- one, other exclude all tables -/
def exclB (far : Nat → Nat → Int) (ws : List (Int × Option Int)) (i j : Nat) : Bool := match (wAt ws j).2 with
  | none => false
  | some last => decide (last + far i j < (wAt ws i).1)
theorem cIsN_int (n : Bool) (i : Int) : cIs n (.int i) .none = some (Bool.xor n false) := rfl
theorem toB_b (b : Bool) : toB (.bool b) = some b := rfl
theorem asB2_b (b : Bool) : asB2 (some b) = some (.bool b) := rfl
/-! ### a search that returns -/
theorem foldF_find {α : Type} {xs : List α} {enc : α → PyData} {f : PUnit → PyData → S (Fl PUnit)} {g : α → Option PyData} (h : ∀ x ∈ xs, f ⟨⟩ (enc x) = S.ret (match g x with | some v => .rt v | none => .nx ⟨⟩)) :
    S.foldF f (xs.map enc) ⟨⟩ = S.ret (match xs.findSome? g with | some v => .rt v | none => .nx ⟨⟩) := by
  induction xs with
  | nil => rfl
  | cons x xs ih =>
    rw [List.map_cons]
    unfold S.foldF
    rw [h x List.mem_cons_self, S.ret_bind, List.findSome?_cons]
    cases e : g x with
    | some v => rfl
    | none => exact ih fun y hy => h y (List.mem_cons_of_mem _ hy)
def pairOD (p : Nat × Nat) : PyData := .tuple [mkD p.1, mkD p.2]
def findPr (n : Nat) (c : Nat → Nat → Bool) : Option (Nat × Nat) := (List.range n).findSome? fun i => (List.range n).findSome? fun j => if c i j = true then some (i, j) else none
def findP (far : Nat → Nat → Int) (ws : List (Int × Option Int)) : Option (Nat × Nat) := findPr ws.length (exclB far ws)
def optD : Option PyData → PyData
  | some d => d
  | none => .none
theorem findSome_map {α β γ : Type} (f : α → Option β) (g : β → γ) : ∀ xs : List α, xs.findSome? (fun x => (f x).map g) = (xs.findSome? f).map g
  | [] => rfl
  | x :: xs => by
    rw [List.findSome?_cons, List.findSome?_cons, findSome_map f g xs]
    cases f x <;> rfl
theorem findSome_congr {α β : Type} {f g : α → Option β} : ∀ {xs : List α}, (∀ x ∈ xs, f x = g x) → xs.findSome? f = xs.findSome? g
  | [], _ => rfl
  | x :: xs, h => by
    rw [List.findSome?_cons, List.findSome?_cons, h x List.mem_cons_self, findSome_congr fun y hy => h y (List.mem_cons_of_mem _ hy)]
theorem oLen_wins (ws : List (Int × Option Int)) : oLen (winsD ws) = some (.int (ws.length : Nat)) := by
  show some (PyData.int ((ws.map winD).length : Nat)) = _
  rw [List.length_map]
def flO (o : Option PyData) : Fl PUnit := match o with
  | some v => .rt v
  | none => .nx ⟨⟩
theorem foldF_find' {α : Type} {xs : List α} {enc : α → PyData} {f : PUnit → PyData → S (Fl PUnit)} (g : α → Option PyData) (h : ∀ x ∈ xs, f ⟨⟩ (enc x) = S.ret (flO (g x))) : S.foldF f (xs.map enc) ⟨⟩ = S.ret (flO (xs.findSome? g)) := foldF_find h
end Pf

set_option maxHeartbeats 1000000
namespace Pf
open PySem PySem.Spec PyProof.Rows L2
/-! ### what draws can give -/
/-- which decks a law has -/
class Fam where
  good : Dk → Prop
section
variable [Fam]
def Can {α : Type} (n : Nat) (m : S α) (P : α → Prop) : Prop := ∀ k, Fam.good k → k.n + n ≤ 10000000 → ∃ a k', m k = some (.ok a, k') ∧ P a ∧ Fam.good k' ∧ k.n ≤ k'.n ∧ k'.n ≤ k.n + n
section
variable {α β σ : Type} {n n' : Nat} {m : S α} {P Q : α → Prop} {R : β → Prop}
theorem Can.ret {a : α} (h : P a) : Can 0 (S.ret a) P := fun k g _ => ⟨a, k, rfl, h, g, Int.le_refl _, by omega⟩
theorem Can.bind {f : α → S β} (h : Can n m P) (hf : ∀ a, P a → Can n' (f a) R) : Can (n + n') (m.bind f) R := fun k g hb => by
  obtain ⟨a, k1, e1, p, g1, l1, u1⟩ := h k g (by omega)
  obtain ⟨b, k2, e2, q, g2, l2, u2⟩ := hf a p k1 g1 (by omega)
  refine ⟨b, k2, ?_, q, g2, by omega, by omega⟩
  unfold S.bind
  rw [e1]
  exact e2
theorem Can.up (h : Can n m P) (hn : n ≤ n') : Can n' m P := fun k g hb => by
  obtain ⟨a, k1, e1, p, g1, l1, u1⟩ := h k g (by omega)
  exact ⟨a, k1, e1, p, g1, l1, by omega⟩
theorem Can.imp (h : Can n m P) (hp : ∀ a, P a → Q a) : Can n m Q := fun k g hb => by
  obtain ⟨a, k1, e1, p, g1, l1, u1⟩ := h k g hb
  exact ⟨a, k1, e1, hp a p, g1, l1, u1⟩
theorem Can.eq {m' : S α} (h : Can n m' P) (e : m = m') : Can n m P := e ▸ h
theorem Can.noEx (h : Can n m P) : Can n (S.noEx m) P := fun k g hb => by
  obtain ⟨a, k1, e1, p, g1, l1, u1⟩ := h k g hb
  refine ⟨a, k1, ?_, p, g1, l1, u1⟩
  unfold S.noEx
  rw [e1]
theorem Can.mapM {f : α → S β} {P : Nat → β → Prop} : ∀ {xs : List α} (j : Nat), (∀ (i : Nat) (x : α), xs[i]? = some x → Can n (f x) (P (j + i))) → Can (n * xs.length) (S.mapM f xs) fun ys => ys.length = xs.length ∧ ∀ (i : Nat) (y : β), ys[i]? = some y → P (j + i) y
  | [], j, _ => Can.ret ⟨rfl, fun i y h => by simp at h⟩
  | x :: xs, j, h => by
    have h0 := h 0 x rfl
    have ih := Can.mapM (xs := xs) (P := P) (f := f) (j + 1) fun i y e => by
      have := h (i + 1) y (by simpa using e)
      rw [show j + 1 + i = j + (i + 1) by omega]
      exact this
    have : n * (x :: xs).length = n + (n * xs.length + 0) := by rw [List.length_cons, Nat.mul_add]; omega
    rw [this]
    unfold S.mapM
    refine h0.bind fun b hb => ih.bind fun bs hbs => Can.ret ⟨by rw [List.length_cons, List.length_cons, hbs.1], fun i y e => ?_⟩
    cases i with
    | zero =>
      simp at e
      subst e
      exact hb
    | succ i =>
      have := hbs.2 i y (by simpa using e)
      rw [show j + (i + 1) = j + 1 + i by omega]
      exact this
theorem Can.foldM {f : σ → α → S σ} (I : Nat → σ → Prop) : ∀ {xs : List α} {s : σ} (j : Nat), I j s → (∀ (i : Nat) (s : σ) (x : α), I (j + i) s → xs[i]? = some x → Can n (f s x) (I (j + i + 1))) → Can (n * xs.length) (S.foldM f xs s) (I (j + xs.length))
  | [], s, j, h, _ => Can.ret h
  | x :: xs, s, j, h, st => by
    have h0 := st 0 s x h rfl
    have : n * (x :: xs).length = n + n * xs.length := by rw [List.length_cons, Nat.mul_add]; omega
    rw [this, show j + (x :: xs).length = j + 1 + xs.length by rw [List.length_cons]; omega]
    unfold S.foldM
    refine h0.bind fun s1 h1 => Can.foldM I (xs := xs) (j + 1) h1 fun i s y hi e => ?_
    rw [show j + 1 + i = j + (i + 1) by omega] at hi ⊢
    exact st (i + 1) s y hi (by simpa using e)
def isNx (I : σ → Prop) : Fl σ → Prop
  | .nx s => I s
  | _ => False
theorem Can.foldF {f : σ → PyData → S (Fl σ)} (I : Nat → σ → Prop) : ∀ {xs : List PyData} {s : σ} (j : Nat), I j s → (∀ (i : Nat) (s : σ) (x : PyData), I (j + i) s → xs[i]? = some x → Can n (f s x) (isNx (I (j + i + 1)))) → Can (n * xs.length) (S.foldF f xs s) (isNx (I (j + xs.length)))
  | [], s, j, h, _ => Can.ret h
  | x :: xs, s, j, h, st => by
    have h0 := st 0 s x h rfl
    have : n * (x :: xs).length = n + n * xs.length := by rw [List.length_cons, Nat.mul_add]; omega
    rw [this, show j + (x :: xs).length = j + 1 + xs.length by rw [List.length_cons]; omega]
    unfold S.foldF
    refine h0.bind fun o h1 => ?_
    cases o with
    | nx s1 =>
      refine Can.foldF I (xs := xs) (j + 1) h1 fun i s y hi e => ?_
      rw [show j + 1 + i = j + (i + 1) by omega] at hi ⊢
      exact st (i + 1) s y hi (by simpa using e)
    | _ => exact h1.elim
end
end
theorem oIx_mem {xs : List PyData} {i : Int} (h0 : 0 ≤ i) (h1 : i < xs.length) : ∃ x, x ∈ xs ∧ oIx (.list xs) (.int i) = some x := atI_mem h0 h1
theorem oPow_k {i j : Int} (h : 0 ≤ j ∧ j ≤ 1000000 ∧ i.natAbs < 2 ^ 64) : oPow (.int i) (.int j) = some (.int (i ^ j.toNat)) := if_pos h
theorem p106 : oPow (.int 10) (.int 6) = some (.int 1000000) := by
  rw [oPow_k (by decide)]
  rfl
theorem oTuple_l (ds : List PyData) : oTuple (.list ds) = some (.tuple ds) := rfl
end Pf

set_option maxHeartbeats 1000000
namespace Pf
open PySem PySem.Spec PyProof.Rows L2
/-! ### what is shown -/
theorem okRepr {d : PyData} {n k : Nat} (h : Fine d n k) (hk : k ≤ 10) (hn : n ≤ 1000000) : oRepr d = some (.str d.shown) := if_pos ((h.nice hk).ok hn)
theorem Fine.non : Fine .none 44 0 := ⟨by simp only [lfs], by simp only [PyData.hasDict], by simp only [PyData.depth]; exact Nat.le_refl _, by simp only [wt]; decide⟩
theorem Fine.bool (b : Bool) : Fine (.bool b) 44 0 := ⟨by simp only [lfs], by simp only [PyData.hasDict], by simp only [PyData.depth]; exact Nat.le_refl _, by simp only [wt]; decide⟩
theorem fine_int {i : Int} (h : -1000000000000 ≤ i ∧ i ≤ 1000000000000) : Fine (.int i) 44 0 := .int (Nat.lt_of_le_of_lt (show i.natAbs ≤ 1000000000000 by omega) (by decide +kernel))
theorem fine_win {w : Int × Option Int} (h1 : -1000000000000 ≤ w.1 ∧ w.1 ≤ 1000000000000) (h2 : ∀ l, w.2 = some l → -1000000000000 ≤ l ∧ l ≤ 1000000000000) : Fine (winD w) 95 1 := by
  refine (Fine.tuple (n := 44) (k := 0) (ds := [.int w.1, lastD w.2]) fun e he => ?_).up (by show (44 + 2) * 2 + 3 ≤ 95; decide) (Nat.le_refl _)
  rcases List.mem_cons.mp he with rfl | he
  · exact fine_int h1
  · rw [List.mem_singleton.mp he]
    cases e : w.2 with
    | none => exact Fine.non
    | some i => exact fine_int (h2 i e)
theorem fine_wins {ws : List (Int × Option Int)} (hl : ws.length ≤ 12) (h : ∀ w ∈ ws, (-1000000000000 ≤ w.1 ∧ w.1 ≤ 1000000000000) ∧ ∀ l, w.2 = some l → -1000000000000 ≤ l ∧ l ≤ 1000000000000) : Fine (winsD ws) 2000 2 := by
  refine (Fine.tuple (n := 95) (k := 1) fun d hd => ?_).up ?_ (Nat.le_refl _)
  · obtain ⟨w, hw, rfl⟩ := List.mem_map.mp hd
    exact fine_win (h w hw).1 (h w hw).2
  · rw [List.length_map]
    omega
theorem Fine.pair {a b : PyData} {n k : Nat} (ha : Fine a n k) (hb : Fine b n k) : Fine (.list [a, b]) ((n + 2) * 2 + 2) (k + 1) := Fine.list fun d hd => by
  rcases List.mem_cons.mp hd with rfl | hd
  · exact ha
  · rw [List.mem_singleton.mp hd]
    exact hb
theorem fine_pairO {o : Option (Nat × Nat)} (h : ∀ p, o = some p → p.1 ≤ 1000 ∧ p.2 ≤ 1000) : Fine (optD (o.map pairOD)) 100 1 := by
  cases o with
  | none => exact Fine.non.up (by decide) (by decide)
  | some p =>
    obtain ⟨h1, h2⟩ := h p rfl
    refine (Fine.tuple (n := 44) (k := 0) (ds := [mkD p.1, mkD p.2]) fun e he => ?_).up (by show (44 + 2) * 2 + 3 ≤ 100; decide) (Nat.le_refl _)
    rcases List.mem_cons.mp he with rfl | he
    · exact fine_int (by omega)
    · rw [List.mem_singleton.mp he]
      exact fine_int (by omega)
theorem findPr_some {n : Nat} {c : Nat → Nat → Bool} {p : Nat × Nat} (h : findPr n c = some p) : p.1 < n ∧ p.2 < n ∧ c p.1 p.2 = true := by
  unfold findPr at h
  obtain ⟨i, hi, h⟩ := List.exists_of_findSome?_eq_some h
  obtain ⟨j, hj, h⟩ := List.exists_of_findSome?_eq_some h
  split at h
  · rename_i hc
    cases h
    exact ⟨List.mem_range.mp hi, List.mem_range.mp hj, hc⟩
  · cases h
theorem cNe_s (x : Str) : cEqn true (.str x) (.str x) = some false := by
  show some (Bool.xor true (decide (x = x))) = _
  rw [decide_eq_true rfl]
  rfl
theorem oMod_k {i j : Int} (h : 0 < j) : oMod (.int i) (.int j) = some (.int (i % j)) := if_pos h
end Pf

set_option maxHeartbeats 1000000
namespace Pf
open PySem PySem.Spec PyProof.Rows L2
theorem law_start [Fam] {N n : Nat} (hN : 2 ≤ N) {Fd : List Sv → M Sv} {R : Rho → M Out} {T : S PyData} (hd : ∀ ns : List Int, ∃ k, Fd [.scr ns] [] = some (.ok (.ref 1) (dkO k)) ∧ Fam.good k ∧ k.n = 0)
    (tt : Jd (none :: some .dk :: List.replicate (N - 2) none) R T pR) (can : Can n T fun d => d = .bool true) (hn : n ≤ 10000000) (ns : List Int) :
    ∃ μ, strip N (gSeq (gSet 1 (callF Fd 1 (argC (slot 0) argN))) R) [.scr ns] [] = some (.ok (.dat (.bool true)) μ) := by
  obtain ⟨k, ek, gk, k0⟩ := hd ns
  have hi : ini N [.scr ns] = some (.scr ns) :: none :: List.replicate (N - 2) none := by
    unfold ini
    show some (Sv.scr ns) :: List.replicate (N - 1) none = _
    rw [show N - 1 = (N - 2) + 1 by omega, List.replicate_succ]
  have q1 : gSet 1 (callF Fd 1 (argC (slot 0) argN)) (ini N [.scr ns]) [] = some (.ok (.nx (some (.scr ns) :: some (.ref 1) :: List.replicate (N - 2) none)) (dkO k)) := by
    rw [hi]
    refine gset_at (s := .ref 1) ?_
    rw [call1_at (show slot 0 _ _ = some (.ok (.scr ns) []) from rfl)]
    exact ek
  have env : EnvR (none :: some .dk :: List.replicate (N - 2) none) k [] (some (.scr ns) :: some (.ref 1) :: List.replicate (N - 2) none) (dkO k) := by
    refine ⟨⟨[], by rw [List.append_nil, List.append_nil]⟩, by simp, fun i x e => ?_, fun i j xs ys t e1 e2 => ?_⟩
    · match i with
      | 0 => cases e
      | 1 =>
        cases e
        exact ⟨_, rfl, rfl⟩
      | i + 2 =>
        have := List.eq_of_mem_replicate (List.mem_of_getElem? (show (List.replicate (N - 2) (none : Option Sk))[i]? = some (some x) from e))
        cases this
    · match i with
      | 0 => cases e1
      | 1 => cases e1
      | i + 2 =>
        have := List.eq_of_mem_replicate (List.mem_of_getElem? (show (List.replicate (N - 2) (none : Option Sk))[i]? = some (some (.mt xs)) from e1))
        cases this
  obtain ⟨d, k', et, rfl, _⟩ := can k gk (by omega)
  obtain ⟨a, μ', w, rfl, _⟩ := tt k [] _ _ env _ _ et
  refine ⟨μ', strip_rt ?_⟩
  rw [seq_at q1]
  exact w
end Pf

set_option maxHeartbeats 1000000
namespace Pf
open PySem PySem.Spec PyProof.Rows L2 PySem.W
/-! ### min(l, default=None) over a list of ints -/
section
variable {X : Cx} {E : XK} {a d : Expr} {es : List Expr} {x : Str} {p pos kpos : Pos} {Fa : Rho → M Sv} {Fs Fk : Rho → M (List Sv)}
def callKw (op : List Sv → M Sv) (Fs Fk : Rho → M (List Sv)) (ρ : Rho) : M Sv := (Fs ρ).bind fun ss => (Fk ρ).bind fun zs => op (ss ++ zs)
/-! ### None not in a tuple -/
/-! ### a, b = a list of that length -/
end
end Pf

namespace Pf
open PySem PySem.Spec PyProof.Rows L2
section
variable {X : Cx} {E : XK} {pos : Pos}
/-! ### a, b, c = a tagged list -/
def gTpM (n : Nat) (U : List Sv → Rho → M Rho) (s : Sv) (ρ : Rho) : M Rho := (tagOf s).bind fun z => if decide (z.2.length = n) = true then U z.2 ρ else M.fail
theorem pg_tpM {ts : List Expr} {U : List Sv → Rho → M Rho} {k : Nat} (n : Nat) (hc : X.calm = true) (h : PGsX X E ts U) (hn : (assignEach ts X.env).length = n := by rfl) (hst : (assignEach ts X.env).findIdx? (·.1) = none := by rfl) : PGX X E (.Tuple ts k pos) (gTpM n U) := by
  refine pg_weak (pg_lst hc h hn hst) fun v σ H Q ⟨W, ρ, μ, s, r, h, rs, e, q⟩ => ?_
  unfold gTpM at e
  obtain ⟨t, xs, rfl, et, e⟩ := tag_bind e
  obtain ⟨c, e⟩ := iff_ok e
  obtain ⟨_, rfl⟩ := rs
  obtain ⟨vs, z1, z2⟩ := h.rel.obj t _ et
  exact ⟨_, vs, rfl, SqL.of z1, by rw [z2.len]; exact of_decide_eq_true c, W, ρ, μ, _, r, h, z2, e, q⟩
/-! ### len of the script -/
def bLenS (ss : List Sv) : M Sv := match ss with
  | [.scr ns] => M.ret (.dat (.int ns.length))
  | _ => M.fail
theorem b_lenS : CallR X (.builtin "len") (rC X.K E bLenS) := callr_weak call_len fun xs H Q ⟨W, μ, ss, r, R, rs, e, q⟩ => by
  unfold bLenS at e
  split at e
  · rename_i ns
    cases e
    obtain ⟨x, rfl, h⟩ := rels1 rs
    obtain ⟨a, rfl, h1⟩ := h
    refine ⟨_, _, rfl, .inl ⟨_, (match h1 with
      | .inl (.inl h) => .inl (.inl (R.sub _ _ h))
      | .inl (.inr ⟨o, h⟩) => .inl (.inr ⟨o, R.sub _ _ h⟩)
      | .inr h => .inr h), rfl⟩, q _ _ (Grow.refl _ _ _) R _ (by rw [List.length_map]; exact .int _)⟩
  · cases e
end
end Pf

set_option maxHeartbeats 1000000
namespace Pf
open PySem PySem.Spec PyProof.Rows L2
/-! ### the deck of the laws k18 to k27 -/
structure cGood (k : Dk) : Prop where
  n0 : 0 ≤ k.n
  pos : ∀ c ∈ k.cs, 0 ≤ c
  ce : ∃ cs, k.ce = some cs ∧ cs.length = k.cs.length ∧ 0 < cs.length ∧ cs.length ≤ 63
instance famC : Fam := ⟨cGood⟩
def mixC (cell n : Int) : Int := (cell % 2147483647 + 69621 * n + 30269) ^ (3 : Int).toNat % 2147483629
def tailC (cell n L : Int) : Int := ((mixC cell n + 6007 * n * n + 17) ^ (3 : Int).toNat % 2147483587 * 2147483423 + mixC cell n) % 4611686018427387847 % L
def drawC (k : Dk) (L : Int) : Int × Dk := match k.ce with
  | some cs => match k.cs[(k.n % (cs.length : Int)).toNat]?, cs[(k.n % (cs.length : Int)).toNat]? with
    | some r, some c => if 0 < r then (r % L, ⟨k.cs.set (k.n % (cs.length : Int)).toNat (r / L), k.n + 1, k.ce⟩) else (tailC c k.n L, ⟨k.cs, k.n + 1, k.ce⟩)
    | _, _ => (0, k)
  | none => (0, k)
open Classical in
noncomputable def TdrawC : PyData → S PyData
  | .int L => fun k => if 0 < L ∧ L < 1073741824 ∧ cGood k ∧ k.n < 10 ^ 7 + 1 then some (.ok (.int (drawC k L).1), (drawC k L).2) else none
  | _ => S.fail
def GdrawC : Rho → M Out :=
  (gSeq (gAsg (slot 0) (gTpM 3 (gsCons (gNm 5) (gsCons (gNm 6) (gsCons (gNm 7) gsNil)))))
  (gSeq (gSet 2 (bin pMod (slot 6) (callV bLen (argC (slot 5) argN))))
  (gSeq (gAsg (bin (pAdd false) (slot 6) (con (.int 1))) (gSt (slot 0) (con (.int 1))))
  (gSeq (gIf (tst (bin pGt (bin pIx (slot 7) (slot 2)) (con (.int 0))))
  (gSeq (gSet 8 (bin pMod (bin pIx (slot 7) (slot 2)) (slot 1)))
  (gSeq (gAsg (bin pFdiv (bin pIx (slot 7) (slot 2)) (slot 1)) (gSt (slot 7) (slot 2)))
  (gRet (slot 8))))
  gSkip)
  (gSeq (gSet 3 (bin pMod (bin pPow (bin (pAdd false) (bin (pAdd false) (bin pMod (bin pIx (slot 5) (slot 2)) (con (.int 2147483647))) (bin (pMul false) (con (.int 69621)) (slot 6))) (con (.int 30269))) (con (.int 3))) (con (.int 2147483629))))
  (gSeq (gSet 4 (bin pMod (bin pPow (bin (pAdd false) (bin (pAdd false) (slot 3) (bin (pMul false) (bin (pMul false) (con (.int 6007)) (slot 6)) (slot 6))) (con (.int 17))) (con (.int 3))) (con (.int 2147483587))))
  (gRet (bin pMod (bin pMod (bin (pAdd false) (bin (pMul false) (slot 4) (con (.int 2147483423))) (slot 3)) (con (.int 4611686018427387847))) (slot 1)))))))))
theorem callVat {op : List Sv → M Sv} {Fs : Rho → M (List Sv)} {ρ : Rho} {μ μ1 : Mu} {ss : List Sv} (h : Fs ρ μ = some (.ok ss μ1)) : callV op Fs ρ μ = op ss μ1 := bind_ok h
theorem pow3_ok {i : Int} {μ : Mu} (h : i.natAbs < 2 ^ 64) : pPow (svI i) (svI 3) μ = some (.ok (svI (i ^ (3 : Int).toNat)) μ) := by
  show (if (decide ((0 : Int) ≤ 3) && decide ((3 : Int) ≤ 1000000) && decide (i.natAbs < 2 ^ 64)) = true then _ else _ : M Sv) _ = _
  rw [decide_eq_true h]
  rfl
theorem mod_ok {i j : Int} {μ : Mu} (h : 0 < j) : pMod (svI i) (svI j) μ = some (.ok (svI (i % j)) μ) := by
  show (if decide (0 < j) = true then _ else _ : M Sv) _ = _
  rw [decide_eq_true h]
  rfl
theorem mul_ok {i j : Int} {μ : Mu} (h : (small i || small j) = true) : pMul false (svI i) (svI j) μ = some (.ok (svI (i * j)) μ) := by
  show (if (small i || small j) = true then _ else _ : M Sv) _ = _
  rw [h]
  rfl
theorem fdiv_ok {i j : Int} {μ : Mu} (h : 0 < j) (h2 : j < 1073741824) : pFdiv (svI i) (svI j) μ = some (.ok (svI (i / j)) μ) := by
  show (if (decide (0 < j) && decide (j < 1073741824)) = true then _ else _ : M Sv) _ = _
  rw [decide_eq_true h, decide_eq_true h2]
  rfl
theorem mixC_ok (c n : Int) : 0 ≤ mixC c n ∧ mixC c n < 2147483629 := ⟨Int.emod_nonneg _ (by decide), Int.emod_lt_of_pos _ (by decide)⟩
theorem sq_small {n : Int} (h0 : 0 ≤ n) (h1 : n < 10 ^ 7 + 1) : 0 ≤ 6007 * n * n ∧ 6007 * n * n ≤ 6007 * 10000000 * 10000000 := by
  have h1' : n ≤ 10000000 := by omega
  have a : 6007 * n ≤ 6007 * 10000000 := by omega
  exact ⟨Int.mul_nonneg (by omega) h0, Int.mul_le_mul a h1' h0 (by decide)⟩
theorem drawC_run {k : Dk} {L : Int} (R : Mu) (hL : 0 < L) (hL2 : L < 1073741824) (hk : cGood k) (hn : k.n < 10 ^ 7 + 1) (x2 x3 x4 x5 x6 x7 x8 : Option Sv) :
    GdrawC [some (.ref 1), some (svI L), x2, x3, x4, x5, x6, x7, x8] (dkO k ++ R) = some (.ok (.rt (svI (drawC k L).1)) (dkO (drawC k L).2 ++ R)) := by
  obtain ⟨rs, n, ce⟩ := k
  obtain ⟨h0, hp, cs, hce, hlen, hpos, h63⟩ := hk
  replace hce : ce = some cs := hce
  subst hce
  replace hlen : cs.length = rs.length := hlen
  replace h0 : 0 ≤ n := h0
  replace hn : n < 10 ^ 7 + 1 := hn
  replace hp : ∀ c ∈ rs, 0 ≤ c := hp
  have i0 : 0 ≤ n % (cs.length : Int) := Int.emod_nonneg _ (by omega)
  have i1 : n % (cs.length : Int) < cs.length := Int.emod_lt_of_pos _ (by omega)
  obtain ⟨r, r1, r2⟩ := atI_lt (xs := rs) i0 (by rw [← hlen]; exact i1)
  obtain ⟨c, c1, c2⟩ := atI_lt (xs := cs) i0 i1
  have r3 : atI (rs.map svI) (n % (cs.length : Int)) = some (svI r) := atI_map r2
  have c3 : atI (cs.map PyData.int) (n % (cs.length : Int)) = some (.int c) := atI_map c2
  generalize ha : n % (cs.length : Int) = a at *
  let C : Sv := .dat (.list (cs.map .int))
  unfold GdrawC
  have s1 : (gAsg (slot 0) (gTpM 3 (gsCons (gNm 5) (gsCons (gNm 6) (gsCons (gNm 7) gsNil))))) [some (.ref 1), some (svI L), x2, x3, x4, x5, x6, x7, x8] (dkO ⟨rs, n, some cs⟩ ++ R) = some (.ok (.nx [some (.ref 1), some (svI L), x2, x3, x4, some C, some (svI n), some (.ref 0), x8]) (dkO ⟨rs, n, some cs⟩ ++ R)) := rfl
  rw [seq_at s1]
  have s2 : (gSet 2 (bin pMod (slot 6) (callV bLen (argC (slot 5) argN)))) [some (.ref 1), some (svI L), x2, x3, x4, some C, some (svI n), some (.ref 0), x8] (dkO ⟨rs, n, some cs⟩ ++ R) = some (.ok (.nx [some (.ref 1), some (svI L), some (svI a), x3, x4, some C, some (svI n), some (.ref 0), x8]) (dkO ⟨rs, n, some cs⟩ ++ R)) := by
    refine gset_at (s := svI a) ?_
    have e2 : callV bLen (argC (slot 5) argN) [some (.ref 1), some (svI L), x2, x3, x4, some C, some (svI n), some (.ref 0), x8] (dkO ⟨rs, n, some cs⟩ ++ R) = some (.ok (svI (cs.length : Nat)) (dkO ⟨rs, n, some cs⟩ ++ R)) := by
      rw [callVat (args_c (show slot 5 _ _ = some (.ok C (dkO ⟨rs, n, some cs⟩ ++ R)) from rfl) args_n)]
      show some (Res.ok (Sv.dat (.int (((cs.map PyData.int).map Sv.dat).length : Nat))) _) = _
      rw [List.length_map, List.length_map]
    rw [bin_at (show slot 6 _ _ = some (.ok (svI n) (dkO ⟨rs, n, some cs⟩ ++ R)) from rfl) e2, mod_ok (by omega), ha]
  rw [seq_at s2]
  have s3 : (gAsg (bin (pAdd false) (slot 6) (con (.int 1))) (gSt (slot 0) (con (.int 1)))) [some (.ref 1), some (svI L), some (svI a), x3, x4, some C, some (svI n), some (.ref 0), x8] (dkO ⟨rs, n, some cs⟩ ++ R) = some (.ok (.nx [some (.ref 1), some (svI L), some (svI a), x3, x4, some C, some (svI n), some (.ref 0), x8]) (dkO ⟨rs, n + 1, some cs⟩ ++ R)) := rfl
  rw [seq_at s3]
  have ix : ∀ y3 y4 y8, bin pIx (slot 7) (slot 2) [some (.ref 1), some (svI L), some (svI a), y3, y4, some C, some (svI n), some (.ref 0), y8] (dkO ⟨rs, n + 1, some cs⟩ ++ R) = some (.ok (svI r) (dkO ⟨rs, n + 1, some cs⟩ ++ R)) := fun y3 y4 y8 => by
    rw [bin_at (show slot 7 _ _ = some (.ok (.ref 0) (dkO ⟨rs, n + 1, some cs⟩ ++ R)) from rfl) (show slot 2 _ _ = some (.ok (svI a) (dkO ⟨rs, n + 1, some cs⟩ ++ R)) from rfl)]
    show orFail (atI (rs.map svI) a) _ = _
    rw [r3]
    rfl
  have t4 : tst (bin pGt (bin pIx (slot 7) (slot 2)) (con (.int 0))) [some (.ref 1), some (svI L), some (svI a), x3, x4, some C, some (svI n), some (.ref 0), x8] (dkO ⟨rs, n + 1, some cs⟩ ++ R) = some (.ok (decide (0 < r)) (dkO ⟨rs, n + 1, some cs⟩ ++ R)) := by
    show M.bind _ _ _ = _
    rw [bind_ok (show bin pGt (bin pIx (slot 7) (slot 2)) (con (.int 0)) _ _ = some (.ok (.dat (.bool (decide (0 < r)))) _) by rw [bin_at (ix _ _ _) (show con (.int 0) _ _ = some (.ok (svI 0) (dkO ⟨rs, n + 1, some cs⟩ ++ R)) from rfl)]; rfl)]
    rfl
  have hd : drawC ⟨rs, n, some cs⟩ L = if 0 < r then (r % L, ⟨rs.set a.toNat (r / L), n + 1, some cs⟩) else (tailC c n L, ⟨rs, n + 1, some cs⟩) := by
    unfold drawC
    dsimp only
    rw [ha, r1, c1]
  by_cases hb : 0 < r
  · rw [decide_eq_true hb] at t4
    rw [hd, if_pos hb]
    refine seq_rt ?_
    rw [if_t t4]
    have q1 : (gSet 8 (bin pMod (bin pIx (slot 7) (slot 2)) (slot 1))) [some (.ref 1), some (svI L), some (svI a), x3, x4, some C, some (svI n), some (.ref 0), x8] (dkO ⟨rs, n + 1, some cs⟩ ++ R) = some (.ok (.nx [some (.ref 1), some (svI L), some (svI a), x3, x4, some C, some (svI n), some (.ref 0), some (svI (r % L))]) (dkO ⟨rs, n + 1, some cs⟩ ++ R)) := by
      refine gset_at (s := svI (r % L)) ?_
      rw [bin_at (ix _ _ _) (show slot 1 _ _ = some (.ok (svI L) (dkO ⟨rs, n + 1, some cs⟩ ++ R)) from rfl), mod_ok hL]
    rw [seq_at q1]
    have q2 : (gAsg (bin pFdiv (bin pIx (slot 7) (slot 2)) (slot 1)) (gSt (slot 7) (slot 2))) [some (.ref 1), some (svI L), some (svI a), x3, x4, some C, some (svI n), some (.ref 0), some (svI (r % L))] (dkO ⟨rs, n + 1, some cs⟩ ++ R) = some (.ok (.nx [some (.ref 1), some (svI L), some (svI a), x3, x4, some C, some (svI n), some (.ref 0), some (svI (r % L))]) (dkO ⟨rs.set a.toNat (r / L), n + 1, some cs⟩ ++ R)) := by
      have hix : ixN (rs.map svI).length a = some a.toNat := by
        rw [List.length_map]
        exact ixN_lt i0 (by omega)
      have q : bin pFdiv (bin pIx (slot 7) (slot 2)) (slot 1) [some (.ref 1), some (svI L), some (svI a), x3, x4, some C, some (svI n), some (.ref 0), some (svI (r % L))] (dkO ⟨rs, n + 1, some cs⟩ ++ R) = some (.ok (svI (r / L)) (dkO ⟨rs, n + 1, some cs⟩ ++ R)) := by
        rw [bin_at (ix _ _ _) (show slot 1 _ _ = some (.ok (svI L) (dkO ⟨rs, n + 1, some cs⟩ ++ R)) from rfl), fdiv_ok hL hL2]
      unfold gAsg
      rw [bind_ok q]
      unfold gSt
      rw [M.assoc, bind_ok (show slot 7 _ _ = some (.ok (.ref 0) (dkO ⟨rs, n + 1, some cs⟩ ++ R)) from rfl), M.assoc, bind_ok (show slot 2 _ _ = some (.ok (svI a) (dkO ⟨rs, n + 1, some cs⟩ ++ R)) from rfl), M.assoc, bind_ok (show asI (svI a) _ = some (.ok a (dkO ⟨rs, n + 1, some cs⟩ ++ R)) from rfl), M.assoc, bind_ok (show tagOf (.ref 0) _ = some (.ok (0, rs.map svI) (dkO ⟨rs, n + 1, some cs⟩ ++ R)) from rfl)]
      dsimp only
      rw [hix]
      show some (Res.ok _ (.lst ((rs.map svI).set a.toNat (svI (r / L))) :: _)) = _
      rw [← List.map_set]
      rfl
    rw [seq_at q2]
    rfl
  · rw [decide_eq_false hb] at t4
    rw [hd, if_neg hb]
    rw [seq_at (ρ' := [some (.ref 1), some (svI L), some (svI a), x3, x4, some C, some (svI n), some (.ref 0), x8]) (μ' := dkO ⟨rs, n + 1, some cs⟩ ++ R) (by rw [if_f t4]; rfl)]
    have b1 : 0 ≤ c % 2147483647 := Int.emod_nonneg _ (by decide)
    have b2 : c % 2147483647 < 2147483647 := Int.emod_lt_of_pos _ (by decide)
    obtain ⟨m1, m2⟩ := mixC_ok c n
    obtain ⟨w1, w2⟩ := sq_small h0 hn
    have q3 : (gSet 3 (bin pMod (bin pPow (bin (pAdd false) (bin (pAdd false) (bin pMod (bin pIx (slot 5) (slot 2)) (con (.int 2147483647))) (bin (pMul false) (con (.int 69621)) (slot 6))) (con (.int 30269))) (con (.int 3))) (con (.int 2147483629)))) [some (.ref 1), some (svI L), some (svI a), x3, x4, some C, some (svI n), some (.ref 0), x8] (dkO ⟨rs, n + 1, some cs⟩ ++ R) = some (.ok (.nx [some (.ref 1), some (svI L), some (svI a), some (svI (mixC c n)), x4, some C, some (svI n), some (.ref 0), x8]) (dkO ⟨rs, n + 1, some cs⟩ ++ R)) := by
      refine gset_at (s := svI (mixC c n)) ?_
      have z0 : bin pIx (slot 5) (slot 2) [some (.ref 1), some (svI L), some (svI a), x3, x4, some C, some (svI n), some (.ref 0), x8] (dkO ⟨rs, n + 1, some cs⟩ ++ R) = some (.ok (svI c) (dkO ⟨rs, n + 1, some cs⟩ ++ R)) := by
        rw [bin_at (show slot 5 _ _ = some (.ok C (dkO ⟨rs, n + 1, some cs⟩ ++ R)) from rfl) (show slot 2 _ _ = some (.ok (svI a) (dkO ⟨rs, n + 1, some cs⟩ ++ R)) from rfl)]
        exact lix_at c3 _
      have z1 : bin pMod (bin pIx (slot 5) (slot 2)) (con (.int 2147483647)) [some (.ref 1), some (svI L), some (svI a), x3, x4, some C, some (svI n), some (.ref 0), x8] (dkO ⟨rs, n + 1, some cs⟩ ++ R) = some (.ok (svI (c % 2147483647)) (dkO ⟨rs, n + 1, some cs⟩ ++ R)) := by
        rw [bin_at z0 (show con (.int 2147483647) _ _ = some (.ok (svI 2147483647) (dkO ⟨rs, n + 1, some cs⟩ ++ R)) from rfl), mod_ok (by decide)]
      have z2 : bin (pMul false) (con (.int 69621)) (slot 6) [some (.ref 1), some (svI L), some (svI a), x3, x4, some C, some (svI n), some (.ref 0), x8] (dkO ⟨rs, n + 1, some cs⟩ ++ R) = some (.ok (svI (69621 * n)) (dkO ⟨rs, n + 1, some cs⟩ ++ R)) := by
        rw [bin_at (show con (.int 69621) _ _ = some (.ok (svI 69621) (dkO ⟨rs, n + 1, some cs⟩ ++ R)) from rfl) (show slot 6 _ _ = some (.ok (svI n) (dkO ⟨rs, n + 1, some cs⟩ ++ R)) from rfl), mul_ok rfl]
      have z3 : bin (pAdd false) (bin (pAdd false) (bin pMod (bin pIx (slot 5) (slot 2)) (con (.int 2147483647))) (bin (pMul false) (con (.int 69621)) (slot 6))) (con (.int 30269)) [some (.ref 1), some (svI L), some (svI a), x3, x4, some C, some (svI n), some (.ref 0), x8] (dkO ⟨rs, n + 1, some cs⟩ ++ R) = some (.ok (svI (c % 2147483647 + 69621 * n + 30269)) (dkO ⟨rs, n + 1, some cs⟩ ++ R)) := by
        rw [bin_at (bin_at z1 z2 |>.trans rfl) (show con (.int 30269) _ _ = some (.ok (svI 30269) (dkO ⟨rs, n + 1, some cs⟩ ++ R)) from rfl)]
        rfl
      rw [bin_at (bin_at z3 (show con (.int 3) _ _ = some (.ok (svI 3) (dkO ⟨rs, n + 1, some cs⟩ ++ R)) from rfl) |>.trans (pow3_ok (by omega))) (show con (.int 2147483629) _ _ = some (.ok (svI 2147483629) (dkO ⟨rs, n + 1, some cs⟩ ++ R)) from rfl), mod_ok (by decide)]
      rfl
    rw [seq_at q3]
    have q4 : (gSet 4 (bin pMod (bin pPow (bin (pAdd false) (bin (pAdd false) (slot 3) (bin (pMul false) (bin (pMul false) (con (.int 6007)) (slot 6)) (slot 6))) (con (.int 17))) (con (.int 3))) (con (.int 2147483587)))) [some (.ref 1), some (svI L), some (svI a), some (svI (mixC c n)), x4, some C, some (svI n), some (.ref 0), x8] (dkO ⟨rs, n + 1, some cs⟩ ++ R) = some (.ok (.nx [some (.ref 1), some (svI L), some (svI a), some (svI (mixC c n)), some (svI ((mixC c n + 6007 * n * n + 17) ^ (3 : Int).toNat % 2147483587)), some C, some (svI n), some (.ref 0), x8]) (dkO ⟨rs, n + 1, some cs⟩ ++ R)) := by
      refine gset_at (s := svI _) ?_
      have n6 : slot 6 [some (.ref 1), some (svI L), some (svI a), some (svI (mixC c n)), x4, some C, some (svI n), some (.ref 0), x8] (dkO ⟨rs, n + 1, some cs⟩ ++ R) = some (.ok (svI n) (dkO ⟨rs, n + 1, some cs⟩ ++ R)) := rfl
      have z2 : bin (pMul false) (bin (pMul false) (con (.int 6007)) (slot 6)) (slot 6) [some (.ref 1), some (svI L), some (svI a), some (svI (mixC c n)), x4, some C, some (svI n), some (.ref 0), x8] (dkO ⟨rs, n + 1, some cs⟩ ++ R) = some (.ok (svI (6007 * n * n)) (dkO ⟨rs, n + 1, some cs⟩ ++ R)) := by
        rw [bin_at (bin_at (show con (.int 6007) _ _ = some (.ok (svI 6007) (dkO ⟨rs, n + 1, some cs⟩ ++ R)) from rfl) n6 |>.trans (mul_ok rfl)) n6, mul_ok]
        have : small n = true := Bool.and_eq_true_iff.mpr ⟨decide_eq_true (show -(2 ^ 64) < n by omega), decide_eq_true (show n < 2 ^ 64 by omega)⟩
        rw [this, Bool.or_true]
      have z3 : bin (pAdd false) (bin (pAdd false) (slot 3) (bin (pMul false) (bin (pMul false) (con (.int 6007)) (slot 6)) (slot 6))) (con (.int 17)) [some (.ref 1), some (svI L), some (svI a), some (svI (mixC c n)), x4, some C, some (svI n), some (.ref 0), x8] (dkO ⟨rs, n + 1, some cs⟩ ++ R) = some (.ok (svI (mixC c n + 6007 * n * n + 17)) (dkO ⟨rs, n + 1, some cs⟩ ++ R)) := by
        rw [bin_at (bin_at (show slot 3 _ _ = some (.ok (svI (mixC c n)) (dkO ⟨rs, n + 1, some cs⟩ ++ R)) from rfl) z2 |>.trans rfl) (show con (.int 17) _ _ = some (.ok (svI 17) (dkO ⟨rs, n + 1, some cs⟩ ++ R)) from rfl)]
        rfl
      rw [bin_at (bin_at z3 (show con (.int 3) _ _ = some (.ok (svI 3) (dkO ⟨rs, n + 1, some cs⟩ ++ R)) from rfl) |>.trans (pow3_ok (by omega))) (show con (.int 2147483587) _ _ = some (.ok (svI 2147483587) (dkO ⟨rs, n + 1, some cs⟩ ++ R)) from rfl), mod_ok (by decide)]
    rw [seq_at q4]
    refine ret_gives ?_
    generalize hB : (mixC c n + 6007 * n * n + 17) ^ (3 : Int).toNat % 2147483587 = B
    have z1 : bin (pMul false) (slot 4) (con (.int 2147483423)) [some (.ref 1), some (svI L), some (svI a), some (svI (mixC c n)), some (svI B), some C, some (svI n), some (.ref 0), x8] (dkO ⟨rs, n + 1, some cs⟩ ++ R) = some (.ok (svI (B * 2147483423)) (dkO ⟨rs, n + 1, some cs⟩ ++ R)) := by
      rw [bin_at (show slot 4 _ _ = some (.ok (svI B) (dkO ⟨rs, n + 1, some cs⟩ ++ R)) from rfl) (show con (.int 2147483423) _ _ = some (.ok (svI 2147483423) (dkO ⟨rs, n + 1, some cs⟩ ++ R)) from rfl), mul_ok]
      rw [show small 2147483423 = true from rfl, Bool.or_true]
    rw [bin_at (bin_at (bin_at z1 (show slot 3 _ _ = some (.ok (svI (mixC c n)) (dkO ⟨rs, n + 1, some cs⟩ ++ R)) from rfl) |>.trans rfl) (show con (.int 4611686018427387847) _ _ = some (.ok (svI 4611686018427387847) (dkO ⟨rs, n + 1, some cs⟩ ++ R)) from rfl) |>.trans (mod_ok (by decide))) (show slot 1 _ _ = some (.ok (svI L) (dkO ⟨rs, n + 1, some cs⟩ ++ R)) from rfl), mod_ok hL, ← hB]
    rfl
theorem tt_drawC (a1 : PyData) : Jd [some .dk, some (.im a1), none, none, none, none, none, none, none] GdrawC (TdrawC a1) pR := fun k rest ρ μ e r k' q => by
  obtain ⟨g, hg⟩ := e.pre
  have hl : ρ.length = 9 := e.len
  obtain ⟨s0, h0, z0⟩ := e.at_ 0 _ rfl
  obtain ⟨s1, h1, z1⟩ := e.at_ 1 _ rfl
  cases z0
  cases z1
  match ρ, hl with
  | [p0, p1, x2, x3, x4, x5, x6, x7, x8], _ =>
    cases h0
    cases h1
    cases a1 with
    | int L =>
      unfold TdrawC at q
      dsimp only at q
      split at q
      · rename_i hc
        cases q
        refine ⟨_, _, ?_, rfl, g, rfl⟩
        rw [hg, List.append_assoc, drawC_run (rest ++ g) hc.1 hc.2.1 hc.2.2.1 hc.2.2.2, List.append_assoc]
      · cases q
    | _ => cases q
theorem same_drawC (ss : List Sv) (μ : Mu) (r : Res Sv) (hs : ss.length = 2) (wf : Wf μ) (e : liftD (u1 TdrawC) ss μ = some r) : ∃ r', GdrawC (ini 9 ss) μ = some r' ∧ Agree μ.length r r' :=
  same_D (n := 1) (by decide) (fun ds h => by
    obtain ⟨a, rfl⟩ := len1 h
    exact r_e (tt_drawC a)) ss μ r hs wf e
theorem tailC_ok (c n : Int) {L : Int} (hL : 0 < L) : 0 ≤ tailC c n L ∧ tailC c n L < L := ⟨Int.emod_nonneg _ (by omega), Int.emod_lt_of_pos _ hL⟩
theorem Can.drawC {L : Int} (h0 : 0 < L) (h1 : L < 1073741824) : Can 1 (TdrawC (.int L)) fun d => ∃ r : Int, d = .int r ∧ 0 ≤ r ∧ r < L := fun k g hb => by
  have hc : 0 < L ∧ L < 1073741824 ∧ cGood k ∧ k.n < 10 ^ 7 + 1 := ⟨h0, h1, g, by omega⟩
  refine ⟨_, _, show TdrawC (.int L) k = _ by unfold TdrawC; dsimp only; rw [if_pos hc], ?_⟩
  obtain ⟨n0, pos, cs, ce, len, cpos, c63⟩ := id g
  have i0 : 0 ≤ k.n % (cs.length : Int) := Int.emod_nonneg _ (by omega)
  have i1 : k.n % (cs.length : Int) < cs.length := Int.emod_lt_of_pos _ (by omega)
  obtain ⟨r, r1, r2⟩ := atI_lt (xs := k.cs) i0 (by rw [← len]; exact i1)
  obtain ⟨c, c1, c2⟩ := atI_lt (xs := cs) i0 i1
  have hr : 0 ≤ r := pos _ (List.mem_of_getElem? r1)
  have hd : Pf.drawC k L = if 0 < r then (r % L, ⟨k.cs.set (k.n % (cs.length : Int)).toNat (r / L), k.n + 1, k.ce⟩) else (tailC c k.n L, ⟨k.cs, k.n + 1, k.ce⟩) := by
    unfold Pf.drawC
    rw [ce]
    dsimp only
    rw [r1, c1]
  rw [hd]
  split
  · refine ⟨⟨_, rfl, Int.emod_nonneg _ (by omega), Int.emod_lt_of_pos _ h0⟩, ⟨by show 0 ≤ k.n + 1; omega, fun c' hc' => ?_, cs, ce, by show _ = (k.cs.set _ _).length; rw [List.length_set]; exact len, cpos, c63⟩, by show k.n ≤ k.n + 1; omega, by show k.n + 1 ≤ k.n + 1; omega⟩
    rcases List.mem_or_eq_of_mem_set hc' with z | z
    · exact pos _ z
    · rw [z]
      exact Int.ediv_nonneg hr (by omega)
  · exact ⟨⟨_, rfl, tailC_ok _ _ h0⟩, ⟨by show 0 ≤ k.n + 1; omega, pos, cs, ce, len, cpos, c63⟩, by show k.n ≤ k.n + 1; omega, by show k.n + 1 ≤ k.n + 1; omega⟩
/-! ### the law's own call -/
def GdraC : Rho → M Out :=
  (gSeq (gSet 1 (bin (pAdd false) (callV (bList false) (argC (slV false (slot 0) noPart (aPart (con (.int 63)))) argN)) (bin (pMul false) (lstV false (argC (con (.int 0)) argN)) (callV bInt (argC (bin pEq (callV bLenS (argC (slot 0) argN)) (con (.int 0))) argN)))))
  (gRet (lstV true (argC (slot 1) (argC (con (.int 0)) (argC (lcV true [2] (seqV (slot 1)) (gNm 2) yes (bin (pMul false) (slot 2) (callV bInt (argC (bin pGe (slot 2) (bin pPow (con (.int 10)) (con (.int 18)))) argN)))) argN))))))
def restOf (c : Int) : Int := c * (if decide ((1000000000000000000 : Int) ≤ c) = true then 1 else 0)
theorem rests_made (cs : List Int) (o : List (Option Sv)) (hl : cs.length ≤ 63) (μ : Mu) :
    (gRet (lstV true (argC (slot 1) (argC (con (.int 0)) (argC (lcV true [2] (seqV (slot 1)) (gNm 2) yes (bin (pMul false) (slot 2) (callV bInt (argC (bin pGe (slot 2) (bin pPow (con (.int 10)) (con (.int 18)))) argN)))) argN))))) [o.headD none, some (.dat (.list (cs.map .int))), none] μ =
      some (.ok (.rt (.ref (μ.length + 1))) (μ ++ [.lst ((cs.map restOf).map svI), .lst [.dat (.list (cs.map .int)), svI 0, .ref μ.length]])) := by
  have e2 : lcL (gNm 2) yes (bin (pMul false) (slot 2) (callV bInt (argC (bin pGe (slot 2) (bin pPow (con (.int 10)) (con (.int 18)))) argN))) (cs.map .int) (wipeR [o.headD none, some (.dat (.list (cs.map .int))), none] [2]) μ = some (.ok ((cs.map PyData.int).map fun d => match d with | .int i => svI (restOf i) | _ => svI 0) μ) := by
    refine lcL_map _ fun d hd => ?_
    obtain ⟨i, _, rfl⟩ := List.mem_map.mp hd
    refine ⟨[o.headD none, some (.dat (.list (cs.map .int))), some (svI i)], rfl, ?_⟩
    have z2 : callV bInt (argC (bin pGe (slot 2) (bin pPow (con (.int 10)) (con (.int 18)))) argN) [o.headD none, some (.dat (.list (cs.map .int))), some (svI i)] μ = some (.ok (svI (if decide ((1000000000000000000 : Int) ≤ i) = true then 1 else 0)) μ) := rfl
    rw [bin_at (show slot 2 _ _ = some (.ok (svI i) μ) from rfl) z2, mul_ok]
    · rfl
    · have : small (if decide ((1000000000000000000 : Int) ≤ i) = true then 1 else 0) = true := by
        split <;> rfl
      rw [this, Bool.or_true]
  have e3 : ((cs.map PyData.int).map fun d => match d with | .int i => svI (restOf i) | _ => svI 0) = (cs.map restOf).map svI := by
    rw [List.map_map, List.map_map]
    rfl
  have sz : szOk (cs.map PyData.int).length = true := decide_eq_true (by rw [List.length_map]; omega)
  rw [e3] at e2
  have lc : lcV true [2] (seqV (slot 1)) (gNm 2) yes (bin (pMul false) (slot 2) (callV bInt (argC (bin pGe (slot 2) (bin pPow (con (.int 10)) (con (.int 18)))) argN))) [o.headD none, some (.dat (.list (cs.map .int))), none] μ = some (.ok (.ref μ.length) (μ ++ [.lst ((cs.map restOf).map svI)])) := by
    unfold lcV
    rw [bind_ok (show seqV (slot 1) _ μ = some (.ok (cs.map .int) μ) from rfl)]
    rw [sz, if_pos rfl, bind_ok e2]
    rfl
  refine ret_gives ?_
  unfold lstV
  rw [bind_ok (args_c (show slot 1 _ μ = some (.ok (.dat (.list (cs.map .int))) μ) from rfl) (args_c (show con (.int 0) _ μ = some (.ok (svI 0) μ) from rfl) (args_c lc args_n)))]
  have al : (μ ++ [MObj.lst ((cs.map restOf).map svI)]).length = μ.length + 1 := by simp
  show some (Res.ok (Sv.ref (μ ++ [MObj.lst ((cs.map restOf).map svI)]).length) ((μ ++ [MObj.lst ((cs.map restOf).map svI)]) ++ [.lst [.dat (.list (cs.map .int)), svI 0, .ref μ.length]])) = _
  rw [al, List.append_assoc]
  rfl
theorem draws_madeC (ns : List Int) : ∃ k, strip 3 GdraC [.scr ns] [] = some (.ok (.ref 1) (dkO k)) ∧ cGood k ∧ k.n = 0 := by
  have hcut : cutL ns none (some (63 : Int)) = ns.take 63 := by
    unfold cutL
    rw [HT.sIx_none]
    show (ns.drop 0).take (HT.sIx ns.length ns.length (some ((63 : Nat) : Int)) - 0) = _
    rw [HT.sIx_nat, List.drop_zero, Nat.sub_zero]
    rcases Nat.le_total 63 ns.length with h | h
    · rw [Nat.min_eq_left h]
    · rw [Nat.min_eq_right h, List.take_of_length_le (Nat.le_refl _), List.take_of_length_le h]
  let cs := ns.take 63 ++ List.replicate (if ns.length = 0 then 1 else 0) (0 : Int)
  have hlen : cs.length ≤ 63 ∧ 0 < cs.length := by
    show (ns.take 63 ++ _).length ≤ 63 ∧ 0 < (ns.take 63 ++ _).length
    rw [List.length_append, List.length_take, List.length_replicate]
    split <;> omega
  have q : (gSet 1 (bin (pAdd false) (callV (bList false) (argC (slV false (slot 0) noPart (aPart (con (.int 63)))) argN)) (bin (pMul false) (lstV false (argC (con (.int 0)) argN)) (callV bInt (argC (bin pEq (callV bLenS (argC (slot 0) argN)) (con (.int 0))) argN))))) [some (.scr ns), none, none] [] = some (.ok (.nx [some (.scr ns), some (.dat (.list (cs.map .int))), none]) []) := by
    refine gset_at (s := .dat (.list (cs.map .int))) ?_
    have e0 : slV false (slot 0) noPart (aPart (con (.int 63))) [some (.scr ns), none, none] [] = some (.ok (.dat (.list ((ns.take 63).map .int))) []) := by
      have : slV false (slot 0) noPart (aPart (con (.int 63))) [some (.scr ns), none, none] [] = mkl false ((cutL ns none (some (63 : Int))).map fun n => Sv.dat (.int n)) [] := by
        rfl
      rw [this, hcut]
      have h2 : (ns.take 63).map (fun n => Sv.dat (.int n)) = ((ns.take 63).map PyData.int).map Sv.dat := by
        rw [List.map_map]
        rfl
      rw [h2]
      exact mkl_dat _ _
    have e1 : callV (bList false) (argC (slV false (slot 0) noPart (aPart (con (.int 63)))) argN) [some (.scr ns), none, none] [] = some (.ok (.dat (.list ((ns.take 63).map .int))) []) := by
      rw [callVat (args_c e0 args_n)]
      exact mkl_dat _ _
    have e2 : callV bInt (argC (bin pEq (callV bLenS (argC (slot 0) argN)) (con (.int 0))) argN) [some (.scr ns), none, none] [] = some (.ok (svI (if ns.length = 0 then 1 else 0)) []) := by
      have l : callV bLenS (argC (slot 0) argN) [some (.scr ns), none, none] [] = some (.ok (svI (ns.length : Nat)) []) := rfl
      rw [callVat (args_c (show bin pEq (callV bLenS (argC (slot 0) argN)) (con (.int 0)) _ [] = some (.ok (.dat (.bool (decide ((ns.length : Int) = 0)))) []) by
        rw [bin_at l (show con (.int 0) _ [] = some (.ok (svI 0) []) from rfl)]
        show some (Res.ok (Sv.dat (.bool (Bool.xor false (decide ((ns.length : Int) = 0))))) _) = _
        rw [Bool.false_xor]) args_n)]
      by_cases h : ns.length = 0
      · rw [decide_eq_true (show (ns.length : Int) = 0 by omega), if_pos h]
        rfl
      · rw [decide_eq_false (show ¬ (ns.length : Int) = 0 by omega), if_neg h]
        rfl
    have e3 : bin (pMul false) (lstV false (argC (con (.int 0)) argN)) (callV bInt (argC (bin pEq (callV bLenS (argC (slot 0) argN)) (con (.int 0))) argN)) [some (.scr ns), none, none] [] = some (.ok (.dat (.list ((List.replicate (if ns.length = 0 then 1 else 0) (0 : Int)).map .int))) []) := by
      rw [bin_at (show lstV false (argC (con (.int 0)) argN) _ [] = some (.ok (.dat (.list [.int 0])) []) from rfl) e2]
      by_cases h : ns.length = 0
      · rw [if_pos h, if_pos h]
        rfl
      · rw [if_neg h, if_neg h]
        rfl
    rw [bin_at e1 e3]
    show (if szOk (((ns.take 63).map PyData.int).length + (((List.replicate (if ns.length = 0 then 1 else 0) (0 : Int)).map PyData.int).map Sv.dat).length) = true then mkl false (((ns.take 63).map PyData.int).map Sv.dat ++ ((List.replicate (if ns.length = 0 then 1 else 0) (0 : Int)).map PyData.int).map Sv.dat) else M.fail) [] = _
    rw [if_pos (show szOk _ = true from decide_eq_true (by rw [List.length_map, List.length_map, List.length_map, List.length_take, List.length_replicate]; split <;> omega)), ← List.map_append, ← List.map_append]
    exact mkl_dat _ _
  have main : GdraC (ini 3 [.scr ns]) [] = some (.ok (.rt (.ref 1)) (dkO ⟨cs.map restOf, 0, some cs⟩)) := by
    show GdraC [some (.scr ns), none, none] [] = _
    unfold GdraC
    rw [seq_at q]
    exact rests_made cs [some (.scr ns)] hlen.1 []
  refine ⟨_, strip_rt main, ⟨Int.le_refl _, fun c hc => ?_, cs, rfl, by show _ = (cs.map restOf).length; rw [List.length_map], hlen.2, hlen.1⟩, rfl⟩
  obtain ⟨i, _, rfl⟩ := List.mem_map.mp hc
  unfold restOf
  split
  · rename_i h
    have := of_decide_eq_true h
    omega
  · omega
end Pf

set_option maxHeartbeats 1000000
namespace Pf
open PySem PySem.Spec PyProof.Rows L2
noncomputable abbrev T__law_next := TdrawC
noncomputable abbrev F__law_next : List Sv → M Sv := liftD (u1 T__law_next)
noncomputable def T__law_tree (a1 a2 : PyData) : S PyData :=
  (((((S.ret a1).bind fun x1 => (S.ret []).bind fun as2 => S.ret (x1 :: as2)).bind (u1 T__law_next)).bind fun x5 => (((S.ret (PyData.int 4)).bind fun x3 => (S.ret []).bind fun as4 => S.ret (x3 :: as4)).bind (u1 T__law_next)).bind fun x6 => (S.ret []).bind fun x7 => S.ret (x5, x6, x7)).bind fun v8 =>
  ((((S.ret v8.1).bind fun x9 => S.lift (rngD x9)).bind fun ds13 => S.foldM (fun (s10 : List PyData) d11 => (S.ret d11).bind fun t12 => ((((((((S.ret t12).bind fun x14 => (S.ret (PyData.int 1)).bind fun x15 => S.lift (oAdd x14 x15)).bind fun x16 => (S.ret []).bind fun as17 => S.ret (x16 :: as17)).bind (u1 T__law_next)).bind fun x32 => ((S.ret t12).bind fun x30 => ((S.ret (PyData.int 0)).bind fun x28 => (((S.ret (PyData.int 0)).bind fun x24 => (((S.ret t12).bind fun x18 => (S.ret (PyData.int 1)).bind fun x19 => S.lift (oSub x18 x19)).bind fun x22 => (((S.ret (PyData.int 2)).bind fun x20 => (S.ret []).bind fun as21 => S.ret (x20 :: as21)).bind (u1 T__law_next)).bind fun x23 => S.lift (oSub x22 x23)).bind fun x25 => S.lift (oMax2 x24 x25)).bind fun x26 => (S.ret []).bind fun as27 => S.ret (x26 :: as27)).bind fun as29 => S.ret (x28 :: as29)).bind fun as31 => S.ret (x30 :: as31)).bind fun as33 => S.ret (x32 :: as33)).bind fun as34 => S.ret (PyData.list as34)).bind fun x35 => (S.ret v8.2.1).bind fun x36 => S.lift (oIx x35 x36)).bind fun v37 =>
  (((((S.ret v37).bind fun x55 => (((S.ret (PyData.int 1)).bind fun x51 => ((((((S.ret a2).bind fun x42 => (((S.ret a2).bind fun x38 => (S.ret (PyData.int 3)).bind fun x39 => S.lift (oMin2 x38 x39)).bind fun x40 => (S.ret []).bind fun as41 => S.ret (x40 :: as41)).bind fun as43 => S.ret (x42 :: as43)).bind fun as44 => S.ret (PyData.list as44)).bind fun x47 => (((S.ret (PyData.int 2)).bind fun x45 => (S.ret []).bind fun as46 => S.ret (x45 :: as46)).bind (u1 T__law_next)).bind fun x48 => S.lift (oIx x47 x48)).bind fun x49 => (S.ret []).bind fun as50 => S.ret (x49 :: as50)).bind (u1 T__law_next)).bind fun x52 => S.lift (oAdd x51 x52)).bind fun x53 => (S.ret []).bind fun as54 => S.ret (x53 :: as54)).bind fun as56 => S.ret (x55 :: as56)).bind fun as57 => S.ret (PyData.tuple as57)).bind fun x58 => S.lift (appD s10 x58)).bind fun s60 => S.ret (s60)))) ds13 (v8.2.2)).bind fun v61 =>
  ((S.ret (PyData.list v61)).bind fun x62 => S.lift (oTuple x62))))
noncomputable abbrev F__law_tree : List Sv → M Sv := liftD (u2 T__law_tree)
noncomputable def G__law_tree : Rho → M Out :=
  (gSeq (gPar3 4 5 6 (argC (callF F__law_next 2 (argC (slot 0) (argC (slot 1) argN))) (argC (callF F__law_next 2 (argC (slot 0) (argC (con (.int 4)) argN))) (argC (lstV true argN) argN))))
  (gSeq (gFor (rngV (slot 4)) (gNm 3)
  (gSeq (gSet 7 (bin pIx (lstV false (argC (callF F__law_next 2 (argC (slot 0) (argC (bin (pAdd false) (slot 3) (con (.int 1))) argN))) (argC (slot 3) (argC (con (.int 0)) (argC (callV bMax2 (argC (con (.int 0)) (argC (bin pSub (bin pSub (slot 3) (con (.int 1))) (callF F__law_next 2 (argC (slot 0) (argC (con (.int 2)) argN)))) argN))) argN))))) (slot 5)))
  (gExpr (appV (slot 6) (tupV (argC (slot 7) (argC (bin (pAdd false) (con (.int 1)) (callF F__law_next 2 (argC (slot 0) (argC (bin pIx (lstV false (argC (slot 2) (argC (callV bMin2 (argC (slot 2) (argC (con (.int 3)) argN))) argN))) (callF F__law_next 2 (argC (slot 0) (argC (con (.int 2)) argN)))) argN)))) argN)))))))
  (gRet (callV bTuple (argC (slot 6) argN)))))
theorem tt__law_tree (a1 a2 : PyData) : Jd [some .dk, some (.im a1), some (.im a2), none, none, none, none, none] G__law_tree (T__law_tree a1 a2) pR := by
  unfold T__law_tree G__law_tree
  exact (r_seq (s_par3M 4 5 6 (e_callD 0 rfl (a_cons' (e_slot 1 rfl) a_nil')) (e_callD 0 rfl (a_cons' (e_con (PyData.int 4)) a_nil')) (m_lst a_nil')) fun v8 =>
  (r_seq (s_for' (h := fun (s : List PyData) => [some .dk, some (.im a1), some (.im a2), none, some (.im v8.1), some (.im v8.2.1), some (.mt s), none]) (v8.2.2) (w_rng (e_slot 4 rfl)) (.keep (.keep (.keep (.drop (.keep (.keep (.keep (.drop .nil)))))))) (fun s10 d11 => b_tg (u := fun d11 => (S.ret d11)) (e' := fun (t : PyData) => [some .dk, some (.im a1), some (.im a2), some (.im t), some (.im v8.1), some (.im v8.2.1), some (.mt s10), none]) d11 (tg_nm 3 d11) fun t12 => ((r_seq (s_setI 7 (e_bin op_ix' (e_lst (a_cons' (e_callD 0 rfl (a_cons' (e_bin op_add' (e_slot 3 rfl) (e_w (e_con (PyData.int 1)))) a_nil')) (a_cons' (e_slot 3 rfl) (a_cons' (e_con (PyData.int 0)) (a_cons' (e_bl2 bl_max2 (e_con (PyData.int 0)) (e_bin op_sub' (e_bin op_sub' (e_slot 3 rfl) (e_w (e_con (PyData.int 1)))) (e_w (e_callD 0 rfl (a_cons' (e_con (PyData.int 2)) a_nil'))))) a_nil'))))) (e_w (e_slot 5 rfl)))) fun v37 =>
  ((n_end (fun (s60 : List PyData) => (s60)) (s_app 6 rfl (e_tup (a_cons' (e_slot 7 rfl) (a_cons' (e_bin op_add' (e_con (PyData.int 1)) (e_w (e_callD 0 rfl (a_cons' (e_bin op_ix' (e_lst (a_cons' (e_slot 2 rfl) (a_cons' (e_bl2 bl_min2 (e_slot 2 rfl) (e_con (PyData.int 3))) a_nil'))) (e_w (e_callD 0 rfl (a_cons' (e_con (PyData.int 2)) a_nil')))) a_nil')))) a_nil'))) rfl) fun s60 => (.keep (.keep (.keep (.drop (.keep (.keep (.keep (.drop .nil)))))))))))))) fun v61 =>
  (r_ret (e_bl1 bl_tuple (e_slotW 6 rfl)))))
theorem same__law_tree (ss : List Sv) (μ : Mu) (r : Res Sv) (hs : ss.length = 3) (wf : Wf μ) (e : F__law_tree ss μ = some r) : ∃ r', G__law_tree (ini 8 ss) μ = some r' ∧ Agree μ.length r r' :=
  same_D (n := 2) (by decide) (fun ds h => by
    obtain ⟨a1, a2, rfl⟩ := len2 h
    exact r_e (tt__law_tree a1 a2)) ss μ r hs wf e
noncomputable def T__law_gap (a0 a1 a2 : PyData) : S PyData :=
  ((S.ret (PyData.int 0)).bind fun v1 =>
  ((S.itW (fun (s2 : PyData × PyData × PyData) => ((S.ret s2.1).bind fun x3 => (S.ret s2.2.1).bind fun x4 => S.lift (cNe x3 x4))) (fun (s2 : PyData × PyData × PyData) => ((((S.ret s2.1).bind fun x5 => (S.ret s2.2.1).bind fun x6 => S.lift (cLt x5 x6)).bind fun z11 => if z11 = true then (((S.ret s2.2.1).bind fun x7 => (S.ret s2.1).bind fun x8 => S.ret (x7, x8)).bind fun s10 => S.ret (s10.1, s10.2)) else (S.ret (s2.1, s2.2.1))).bind fun v12 =>
  (((S.ret s2.2.2).bind fun x19 => (((S.ret a0).bind fun x15 => ((S.ret v12.1).bind fun x13 => (S.ret (PyData.int 1)).bind fun x14 => S.lift (oSub x13 x14)).bind fun x16 => S.lift (oIx x15 x16)).bind fun x17 => (S.ret (PyData.int 1)).bind fun x18 => S.lift (oIx x17 x18)).bind fun x20 => S.lift (oAdd x19 x20)).bind fun v21 =>
  ((((S.ret a0).bind fun x24 => ((S.ret v12.1).bind fun x22 => (S.ret (PyData.int 1)).bind fun x23 => S.lift (oSub x22 x23)).bind fun x25 => S.lift (oIx x24 x25)).bind fun x26 => (S.ret (PyData.int 0)).bind fun x27 => S.lift (oIx x26 x27)).bind fun s29 => S.ret (s29, v12.2, v21))))) 100 (a1, a2, v1)).bind fun v30 =>
  (S.ret v30.2.2)))
noncomputable abbrev F__law_gap : List Sv → M Sv := liftF (u3 T__law_gap)
noncomputable def G__law_gap : Rho → M Out :=
  (gSeq (gSet 3 (con (.int 0)))
  (gSeq (loopW (tst (bin pNe (slot 1) (slot 2)))
  (gSeq (gIf (tst (bin pLt (slot 1) (slot 2)))
  (gPar 1 2 (argC (slot 2) (argC (slot 1) argN)))
  gSkip)
  (gSeq (gSet 3 (bin (pAdd false) (slot 3) (bin pIx (bin pIx (slot 0) (bin pSub (slot 1) (con (.int 1)))) (con (.int 1)))))
  (gSet 1 (bin pIx (bin pIx (slot 0) (bin pSub (slot 1) (con (.int 1)))) (con (.int 0)))))) 100)
  (gRet (slot 3))))
theorem tt__law_gap (a0 a1 a2 : PyData) : Jd [some (.im a0), some (.im a1), some (.im a2), none] G__law_gap (T__law_gap a0 a1 a2) pR := by
  unfold T__law_gap G__law_gap
  exact (r_seq (s_setI 3 (e_con (PyData.int 0))) fun v1 =>
  (r_seq (s_whl (h := fun (s : PyData × PyData × PyData) => [some (.im a0), some (.im s.1), some (.im s.2.1), some (.im s.2.2)]) 100 (a1, a2, v1) (.keep (.keep (.keep (.keep .nil)))) (fun s2 => (u_bin op_eqn' (e_slot 1 rfl) (e_w (e_slot 2 rfl)))) (fun s2 => ((r_seq (q_if (P := pN fun (s : PyData × PyData) => [some (.im a0), some (.im s.1), some (.im s.2), some (.im s2.2.2)]) (u_bin op_cmp' (e_slot 1 rfl) (e_w (e_slot 2 rfl))) ((n_end (fun (s10 : PyData × PyData) => (s10.1, s10.2)) (s_par' 1 2 (e_slot 2 rfl) (e_slot 1 rfl)) fun s10 => (.keep (.keep (.keep (.keep .nil)))))) (n_skip (s2.1, s2.2.1) (.keep (.keep (.keep (.keep .nil)))))) fun v12 =>
  ((r_seq (s_setI 3 (e_bin op_add' (e_slot 3 rfl) (e_w (e_bin op_ix' (e_bin op_ix' (e_slot 0 rfl) (e_w (e_bin op_sub' (e_slot 1 rfl) (e_w (e_con (PyData.int 1)))))) (e_w (e_con (PyData.int 1))))))) fun v21 =>
  ((n_end (fun (s29 : PyData) => (s29, v12.2, v21)) (s_setI 1 (e_bin op_ix' (e_bin op_ix' (e_slot 0 rfl) (e_w (e_bin op_sub' (e_slot 1 rfl) (e_w (e_con (PyData.int 1)))))) (e_w (e_con (PyData.int 0))))) fun s29 => (.keep (.keep (.keep (.keep .nil)))))))))))) fun v30 =>
  (r_ret (e_slot 3 rfl))))
theorem same__law_gap (ss : List Sv) (μ : Mu) (r : Res Sv) (hs : ss.length = 3) (wf : Wf μ) (e : F__law_gap ss μ = some r) : ∃ r', G__law_gap (ini 4 ss) μ = some r' ∧ Agree μ.length r r' :=
  same_T (n := 3) (fun ds h => by
    obtain ⟨a0, a1, a2, rfl⟩ := len3 h
    exact r_e (tt__law_gap a0 a1 a2)) ss μ r hs wf e
noncomputable def T__law_falls (a0 a1 : PyData) : S PyData :=
  ((S.ret []).bind fun v1 =>
  ((((((S.ret a0).bind fun x2 => S.lift (oLen x2)).bind fun x3 => (S.ret (PyData.int 1)).bind fun x4 => S.lift (oAdd x3 x4)).bind fun x5 => S.lift (rngD x5)).bind fun ds9 => S.foldM (fun (s6 : List PyData) d7 => (S.ret d7).bind fun t8 => ((((((S.ret a1).bind fun x10 => S.lift (seqD x10)).bind fun ds18 => (S.lift (szD ds18)).bind fun _ => (S.mapM (fun d11 => S.noEx (((S.lift (un2 d11)).bind fun p12 => (S.ret p12.1).bind fun s13 => (S.ret p12.2).bind fun s15 => S.ret (s13, s15)).bind fun s17 => ((S.ret s17.2).bind fun x26 => (((S.ret a0).bind fun x24 => ((S.ret s17.1).bind fun x22 => ((S.ret t8).bind fun x20 => (S.ret []).bind fun as21 => S.ret (x20 :: as21)).bind fun as23 => S.ret (x22 :: as23)).bind fun as25 => S.ret (x24 :: as25)).bind (u3 T__law_gap)).bind fun x27 => S.lift (oAdd x26 x27)))) ds18).bind fun xs19 => S.ret (PyData.list xs19)).bind fun x28 => S.lift (oBest min x28)).bind fun x29 => S.lift (appD s6 x29)).bind fun s31 => S.ret (s31))) ds9 (v1)).bind fun v32 =>
  ((S.ret (PyData.list v32)).bind fun x33 => S.lift (oTuple x33))))
noncomputable abbrev F__law_falls : List Sv → M Sv := liftF (u2 T__law_falls)
noncomputable def G__law_falls : Rho → M Out :=
  (gSeq (gSet 2 (lstV true argN))
  (gSeq (gFor (rngV (bin (pAdd false) (callV bLen (argC (slot 0) argN)) (con (.int 1)))) (gNm 3)
  (gExpr (appV (slot 2) (callV bMinA (argC (lcV false [4, 5] (seqV (slot 1)) (gTp 2 (gsCons (gNm 4) (gsCons (gNm 5) gsNil))) yes (bin (pAdd false) (slot 5) (callF F__law_gap 3 (argC (slot 0) (argC (slot 4) (argC (slot 3) argN)))))) argN)))))
  (gRet (callV bTuple (argC (slot 2) argN)))))
theorem tt__law_falls (a0 a1 : PyData) : Jd [some (.im a0), some (.im a1), none, none, none, none] G__law_falls (T__law_falls a0 a1) pR := by
  unfold T__law_falls G__law_falls
  exact (r_seq (s_setM 2 (m_lst a_nil')) fun v1 =>
  (r_seq (s_for' (h := fun (s : List PyData) => [some (.im a0), some (.im a1), some (.mt s), none, none, none]) (v1) (w_rng (e_bin op_add' (e_bl1 bl_len (e_w (e_slot 0 rfl))) (e_w (e_con (PyData.int 1))))) (.keep (.keep (.keep (.drop (.drop (.drop .nil)))))) (fun s6 d7 => b_tg (u := fun d7 => (S.ret d7)) (e' := fun (t : PyData) => [some (.im a0), some (.im a1), some (.mt s6), some (.im t), none, none]) d7 (tg_nm 3 d7) fun t8 => ((n_end (fun (s31 : List PyData) => (s31)) (s_app 2 rfl (e_bl1 bl_best (e_w (e_lc (u := fun d11 => ((S.lift (un2 d11)).bind fun p12 => (S.ret p12.1).bind fun s13 => (S.ret p12.2).bind fun s15 => S.ret (s13, s15))) (e' := fun (s : ((PyData) × (PyData))) => [some (.im a0), some (.im a1), some (.mt s6), some (.im t8), some (.im s.1), some (.im s.2)]) [4, 5] (w_seq (e_slot 1 rfl)) rfl (fun d11 => (tc_tp2 (e1 := fun (s13 : PyData) => [some (.im a0), some (.im a1), some (.mt s6), some (.im t8), some (.im s13), none]) (e2 := fun (s13 : PyData) (s15 : PyData) => [some (.im a0), some (.im a1), some (.mt s6), some (.im t8), some (.im s13), some (.im s15)]) (u1 := fun d14 => (S.ret d14)) (u2 := fun d16 => (S.ret d16)) d11 (fun d14 => (tc_nm 4 d14 rfl)) (fun s13 d16 => (tc_nm 5 d16 rfl)))) (fun s17 => (e_bin op_add' (e_slot 5 rfl) (e_w (e_call (a_cons' (e_slot 0 rfl) (a_cons' (e_slot 4 rfl) (a_cons' (e_slot 3 rfl) a_nil')))))))))) rfl) fun s31 => (.keep (.keep (.keep (.drop (.drop (.drop .nil)))))))))) fun v32 =>
  (r_ret (e_bl1 bl_tuple (e_slotW 2 rfl)))))
theorem same__law_falls (ss : List Sv) (μ : Mu) (r : Res Sv) (hs : ss.length = 2) (wf : Wf μ) (e : F__law_falls ss μ = some r) : ∃ r', G__law_falls (ini 6 ss) μ = some r' ∧ Agree μ.length r r' :=
  same_T (n := 2) (fun ds h => by
    obtain ⟨a0, a1, rfl⟩ := len2 h
    exact r_e (tt__law_falls a0 a1)) ss μ r hs wf e
noncomputable def T__law_pushes (a1 a2 a3 : PyData) : S PyData :=
  ((S.ret []).bind fun v1 =>
  (((((S.ret (PyData.int 1)).bind fun x4 => (((S.ret a2).bind fun x2 => (S.ret []).bind fun as3 => S.ret (x2 :: as3)).bind (u1 T__law_next)).bind fun x5 => S.lift (oAdd x4 x5)).bind fun x6 => S.lift (rngD x6)).bind fun ds10 => S.foldM (fun (s7 : List PyData) d8 => (S.ret d8).bind fun t9 => (((((((((S.ret a1).bind fun x11 => S.lift (oLen x11)).bind fun x12 => (S.ret (PyData.int 1)).bind fun x13 => S.lift (oAdd x12 x13)).bind fun x14 => (S.ret []).bind fun as15 => S.ret (x14 :: as15)).bind (u1 T__law_next)).bind fun x22 => (((((S.ret a3).bind fun x16 => (S.ret (PyData.int 1)).bind fun x17 => S.lift (oAdd x16 x17)).bind fun x18 => (S.ret []).bind fun as19 => S.ret (x18 :: as19)).bind (u1 T__law_next)).bind fun x20 => (S.ret []).bind fun as21 => S.ret (x20 :: as21)).bind fun as23 => S.ret (x22 :: as23)).bind fun as24 => S.ret (PyData.tuple as24)).bind fun x25 => S.lift (appD s7 x25)).bind fun s27 => S.ret (s27))) ds10 (v1)).bind fun v28 =>
  ((S.ret (PyData.list v28)).bind fun x29 => S.lift (oTuple x29))))
noncomputable abbrev F__law_pushes : List Sv → M Sv := liftD (u3 T__law_pushes)
noncomputable def G__law_pushes : Rho → M Out :=
  (gSeq (gSet 4 (lstV true argN))
  (gSeq (gFor (rngV (bin (pAdd false) (con (.int 1)) (callF F__law_next 2 (argC (slot 0) (argC (slot 2) argN))))) (gNm 5)
  (gExpr (appV (slot 4) (tupV (argC (callF F__law_next 2 (argC (slot 0) (argC (bin (pAdd false) (callV bLen (argC (slot 1) argN)) (con (.int 1))) argN))) (argC (callF F__law_next 2 (argC (slot 0) (argC (bin (pAdd false) (slot 3) (con (.int 1))) argN))) argN))))))
  (gRet (callV bTuple (argC (slot 4) argN)))))
theorem tt__law_pushes (a1 a2 a3 : PyData) : Jd [some .dk, some (.im a1), some (.im a2), some (.im a3), none, none] G__law_pushes (T__law_pushes a1 a2 a3) pR := by
  unfold T__law_pushes G__law_pushes
  exact (r_seq (s_setM 4 (m_lst a_nil')) fun v1 =>
  (r_seq (s_for' (h := fun (s : List PyData) => [some .dk, some (.im a1), some (.im a2), some (.im a3), some (.mt s), none]) (v1) (w_rng (e_bin op_add' (e_con (PyData.int 1)) (e_w (e_callD 0 rfl (a_cons' (e_slot 2 rfl) a_nil'))))) (.keep (.keep (.keep (.keep (.keep (.drop .nil)))))) (fun s7 d8 => b_tg (u := fun d8 => (S.ret d8)) (e' := fun (t : PyData) => [some .dk, some (.im a1), some (.im a2), some (.im a3), some (.mt s7), some (.im t)]) d8 (tg_nm 5 d8) fun t9 => ((n_end (fun (s27 : List PyData) => (s27)) (s_app 4 rfl (e_tup (a_cons' (e_callD 0 rfl (a_cons' (e_bin op_add' (e_bl1 bl_len (e_w (e_slot 1 rfl))) (e_w (e_con (PyData.int 1)))) a_nil')) (a_cons' (e_callD 0 rfl (a_cons' (e_bin op_add' (e_slot 3 rfl) (e_w (e_con (PyData.int 1)))) a_nil')) a_nil'))) rfl) fun s27 => (.keep (.keep (.keep (.keep (.keep (.drop .nil)))))))))) fun v28 =>
  (r_ret (e_bl1 bl_tuple (e_slotW 4 rfl)))))
theorem same__law_pushes (ss : List Sv) (μ : Mu) (r : Res Sv) (hs : ss.length = 4) (wf : Wf μ) (e : F__law_pushes ss μ = some r) : ∃ r', G__law_pushes (ini 6 ss) μ = some r' ∧ Agree μ.length r r' :=
  same_D (n := 3) (by decide) (fun ds h => by
    obtain ⟨a1, a2, a3, rfl⟩ := len3 h
    exact r_e (tt__law_pushes a1 a2 a3)) ss μ r hs wf e
end Pf

set_option maxHeartbeats 1000000
namespace Pf
open PySem PySem.Spec PyProof.Rows L2
noncomputable def T__law_windows (a1 a2 : PyData) : S PyData :=
  ((((S.ret a1).bind fun x9 => ((((S.ret a1).bind fun x5 => ((S.ret (PyData.int 4)).bind fun x3 => ((S.ret a2).bind fun x1 => (S.ret []).bind fun as2 => S.ret (x1 :: as2)).bind fun as4 => S.ret (x3 :: as4)).bind fun as6 => S.ret (x5 :: as6)).bind (u3 T__law_pushes)).bind fun x7 => (S.ret []).bind fun as8 => S.ret (x7 :: as8)).bind fun as10 => S.ret (x9 :: as10)).bind (u2 T__law_falls)).bind fun v11 =>
  ((((((S.ret (PyData.int 1)).bind fun x18 => ((S.ret (PyData.int 4)).bind fun x16 => (((S.ret a2).bind fun x12 => (S.ret (PyData.int 1)).bind fun x13 => S.lift (oAdd x12 x13)).bind fun x14 => (S.ret []).bind fun as15 => S.ret (x14 :: as15)).bind fun as17 => S.ret (x16 :: as17)).bind fun as19 => S.ret (x18 :: as19)).bind fun as20 => S.ret (PyData.list as20)).bind fun x23 => (((S.ret (PyData.int 3)).bind fun x21 => (S.ret []).bind fun as22 => S.ret (x21 :: as22)).bind (u1 T__law_next)).bind fun x24 => S.lift (oIx x23 x24)).bind fun x27 => (((S.ret (PyData.int 4)).bind fun x25 => (S.ret []).bind fun as26 => S.ret (x25 :: as26)).bind (u1 T__law_next)).bind fun x28 => (S.ret []).bind fun x29 => S.ret (x27, x28, x29)).bind fun v30 =>
  ((((S.ret v11).bind fun x31 => S.lift (seqD x31)).bind fun ds35 => S.foldM (fun (s32 : List PyData) d33 => (S.ret d33).bind fun t34 => (((S.ret (PyData.int 0)).bind fun x42 => ((S.ret t34).bind fun x40 => ((((S.ret v30.1).bind fun x36 => (S.ret (PyData.int 1)).bind fun x37 => S.lift (oAdd x36 x37)).bind fun x38 => (S.ret []).bind fun as39 => S.ret (x38 :: as39)).bind (u1 T__law_next)).bind fun x41 => S.lift (oSub x40 x41)).bind fun x43 => S.lift (oMax2 x42 x43)).bind fun v44 =>
  (((S.ret t34).bind fun x49 => ((((S.ret v30.1).bind fun x45 => (S.ret (PyData.int 1)).bind fun x46 => S.lift (oAdd x45 x46)).bind fun x47 => (S.ret []).bind fun as48 => S.ret (x47 :: as48)).bind (u1 T__law_next)).bind fun x50 => S.lift (oAdd x49 x50)).bind fun v51 =>
  (((((S.ret v30.2.1).bind fun x52 => (S.ret (PyData.int 0)).bind fun x53 => S.lift (cEq x52 x53)).bind fun z58 => bAnd z58 ((((S.ret (PyData.int 2)).bind fun x54 => (S.ret []).bind fun as55 => S.ret (x54 :: as55)).bind (u1 T__law_next)).bind fun x56 => (S.ret (PyData.int 0)).bind fun x57 => S.lift (cEq x56 x57))).bind fun z61 => if z61 = true then ((S.ret PyData.none).bind fun s60 => S.ret (s60)) else (S.ret (v51))).bind fun v62 =>
  (((((S.ret v44).bind fun x65 => ((S.ret v62).bind fun x63 => (S.ret []).bind fun as64 => S.ret (x63 :: as64)).bind fun as66 => S.ret (x65 :: as66)).bind fun as67 => S.ret (PyData.tuple as67)).bind fun x68 => S.lift (appD s32 x68)).bind fun s70 => S.ret (s70)))))) ds35 (v30.2.2)).bind fun v71 =>
  ((((S.ret v30.2.1).bind fun x72 => (S.ret (PyData.int 1)).bind fun x73 => S.lift (cEq x72 x73)).bind fun z97 => if z97 = true then ((((((S.ret (PyData.list v71)).bind fun x74 => S.lift (oLen x74)).bind fun x75 => (S.ret []).bind fun as76 => S.ret (x75 :: as76)).bind (u1 T__law_next)).bind fun x81 => ((((S.ret a2).bind fun x77 => (S.ret (PyData.int 9)).bind fun x78 => S.lift (oAdd x77 x78)).bind fun x79 => (S.ret []).bind fun as80 => S.ret (x79 :: as80)).bind (u1 T__law_next)).bind fun x82 => S.ret (x81, x82)).bind fun v83 =>
  (((((S.ret v83.2).bind fun x90 => (((S.ret v83.2).bind fun x86 => (((S.ret v30.1).bind fun x84 => (S.ret []).bind fun as85 => S.ret (x84 :: as85)).bind (u1 T__law_next)).bind fun x87 => S.lift (oAdd x86 x87)).bind fun x88 => (S.ret []).bind fun as89 => S.ret (x88 :: as89)).bind fun as91 => S.ret (x90 :: as91)).bind fun as92 => S.ret (PyData.tuple as92)).bind fun d93 => ((S.ret v83.1).bind fun x94 => S.lift (stI v71 x94 d93))).bind fun s96 => S.ret (s96))) else (S.ret (v71))).bind fun v98 =>
  ((S.ret (PyData.list v98)).bind fun x99 => S.lift (oTuple x99))))))
noncomputable abbrev F__law_windows : List Sv → M Sv := liftD (u2 T__law_windows)
noncomputable def G__law_windows : Rho → M Out :=
  (gSeq (gSet 3 (callF F__law_falls 2 (argC (slot 1) (argC (callF F__law_pushes 4 (argC (slot 0) (argC (slot 1) (argC (con (.int 4)) (argC (slot 2) argN))))) argN))))
  (gSeq (gPar3 5 6 7 (argC (bin pIx (lstV false (argC (con (.int 1)) (argC (con (.int 4)) (argC (bin (pAdd false) (slot 2) (con (.int 1))) argN)))) (callF F__law_next 2 (argC (slot 0) (argC (con (.int 3)) argN)))) (argC (callF F__law_next 2 (argC (slot 0) (argC (con (.int 4)) argN))) (argC (lstV true argN) argN))))
  (gSeq (gFor (seqV (slot 3)) (gNm 4)
  (gSeq (gSet 8 (callV bMax2 (argC (con (.int 0)) (argC (bin pSub (slot 4) (callF F__law_next 2 (argC (slot 0) (argC (bin (pAdd false) (slot 5) (con (.int 1))) argN)))) argN))))
  (gSeq (gSet 9 (bin (pAdd false) (slot 4) (callF F__law_next 2 (argC (slot 0) (argC (bin (pAdd false) (slot 5) (con (.int 1))) argN)))))
  (gSeq (gIf (andT (tst (bin pEq (slot 6) (con (.int 0)))) (tst (bin pEq (callF F__law_next 2 (argC (slot 0) (argC (con (.int 2)) argN))) (con (.int 0)))))
  (gSet 9 (con .none))
  gSkip)
  (gExpr (appV (slot 7) (tupV (argC (slot 8) (argC (slot 9) argN)))))))))
  (gSeq (gIf (tst (bin pEq (slot 6) (con (.int 1))))
  (gSeq (gPar 10 8 (argC (callF F__law_next 2 (argC (slot 0) (argC (callV bLen (argC (slot 7) argN)) argN))) (argC (callF F__law_next 2 (argC (slot 0) (argC (bin (pAdd false) (slot 2) (con (.int 9))) argN))) argN)))
  (gAsg (tupV (argC (slot 8) (argC (bin (pAdd false) (slot 8) (callF F__law_next 2 (argC (slot 0) (argC (slot 5) argN)))) argN))) (gSt (slot 7) (slot 10))))
  gSkip)
  (gRet (callV bTuple (argC (slot 7) argN)))))))
theorem tt__law_windows (a1 a2 : PyData) : Jd [some .dk, some (.im a1), some (.im a2), none, none, none, none, none, none, none, none] G__law_windows (T__law_windows a1 a2) pR := by
  unfold T__law_windows G__law_windows
  exact (r_seq (s_setI 3 (e_call (a_cons' (e_slot 1 rfl) (a_cons' (e_callD 0 rfl (a_cons' (e_slot 1 rfl) (a_cons' (e_con (PyData.int 4)) (a_cons' (e_slot 2 rfl) a_nil')))) a_nil')))) fun v11 =>
  (r_seq (s_par3M 5 6 7 (e_bin op_ix' (e_lst (a_cons' (e_con (PyData.int 1)) (a_cons' (e_con (PyData.int 4)) (a_cons' (e_bin op_add' (e_slot 2 rfl) (e_w (e_con (PyData.int 1)))) a_nil')))) (e_w (e_callD 0 rfl (a_cons' (e_con (PyData.int 3)) a_nil')))) (e_callD 0 rfl (a_cons' (e_con (PyData.int 4)) a_nil')) (m_lst a_nil')) fun v30 =>
  (r_seq (s_for' (h := fun (s : List PyData) => [some .dk, some (.im a1), some (.im a2), some (.im v11), none, some (.im v30.1), some (.im v30.2.1), some (.mt s), none, none, none]) (v30.2.2) (w_seq (e_slot 3 rfl)) (.keep (.keep (.keep (.keep (.drop (.keep (.keep (.keep (.drop (.drop (.drop .nil))))))))))) (fun s32 d33 => b_tg (u := fun d33 => (S.ret d33)) (e' := fun (t : PyData) => [some .dk, some (.im a1), some (.im a2), some (.im v11), some (.im t), some (.im v30.1), some (.im v30.2.1), some (.mt s32), none, none, none]) d33 (tg_nm 4 d33) fun t34 => ((r_seq (s_setI 8 (e_bl2 bl_max2 (e_con (PyData.int 0)) (e_bin op_sub' (e_slot 4 rfl) (e_w (e_callD 0 rfl (a_cons' (e_bin op_add' (e_slot 5 rfl) (e_w (e_con (PyData.int 1)))) a_nil')))))) fun v44 =>
  ((r_seq (s_setI 9 (e_bin op_add' (e_slot 4 rfl) (e_w (e_callD 0 rfl (a_cons' (e_bin op_add' (e_slot 5 rfl) (e_w (e_con (PyData.int 1)))) a_nil'))))) fun v51 =>
  ((r_seq (q_if (P := pN fun (s : PyData) => [some .dk, some (.im a1), some (.im a2), some (.im v11), some (.im t34), some (.im v30.1), some (.im v30.2.1), some (.mt s32), some (.im v44), some (.im s), none]) (u_and (u_bin op_eqn' (e_slot 6 rfl) (e_w (e_con (PyData.int 0)))) (u_bin op_eqn' (e_callD 0 rfl (a_cons' (e_con (PyData.int 2)) a_nil')) (e_w (e_con (PyData.int 0))))) ((n_end (fun (s60 : PyData) => (s60)) (s_setI 9 (e_con PyData.none)) fun s60 => (.keep (.keep (.keep (.keep (.keep (.keep (.keep (.keep (.keep (.keep (.drop .nil))))))))))))) (n_skip (v51) (.keep (.keep (.keep (.keep (.keep (.keep (.keep (.keep (.keep (.keep (.drop .nil))))))))))))) fun v62 =>
  ((n_end (fun (s70 : List PyData) => (s70)) (s_app 7 rfl (e_tup (a_cons' (e_slot 8 rfl) (a_cons' (e_slot 9 rfl) a_nil'))) rfl) fun s70 => (.keep (.keep (.keep (.keep (.drop (.keep (.keep (.keep (.drop (.drop (.drop .nil))))))))))))))))))))) fun v71 =>
  (r_seq (q_if (P := pN fun (s : List PyData) => [some .dk, some (.im a1), some (.im a2), some (.im v11), none, some (.im v30.1), some (.im v30.2.1), some (.mt s), none, none, none]) (u_bin op_eqn' (e_slot 6 rfl) (e_w (e_con (PyData.int 1)))) ((r_seq (s_par' 10 8 (e_callD 0 rfl (a_cons' (e_bl1 bl_len (e_slotW 7 rfl)) a_nil')) (e_callD 0 rfl (a_cons' (e_bin op_add' (e_slot 2 rfl) (e_w (e_con (PyData.int 9)))) a_nil'))) fun v83 =>
  ((n_end (fun (s96 : List PyData) => (s96)) (s_asg' (u := fun d93 => ((S.ret v83.1).bind fun x94 => S.lift (stI v71 x94 d93))) (e' := fun (s : List PyData) => [some .dk, some (.im a1), some (.im a2), some (.im v11), none, some (.im v30.1), some (.im v30.2.1), some (.mt s), some (.im v83.2), none, some (.im v83.1)]) (e_tup (a_cons' (e_slot 8 rfl) (a_cons' (e_bin op_add' (e_slot 8 rfl) (e_w (e_callD 0 rfl (a_cons' (e_slot 5 rfl) a_nil')))) a_nil'))) fun d93 => (tg_st 7 d93 rfl (e_slot 10 rfl) rfl)) fun s96 => (.keep (.keep (.keep (.keep (.drop (.keep (.keep (.keep (.drop (.drop (.drop .nil))))))))))))))) (n_skip (v71) (.keep (.keep (.keep (.keep (.drop (.keep (.keep (.keep (.drop (.drop (.drop .nil))))))))))))) fun v98 =>
  (r_ret (e_bl1 bl_tuple (e_slotW 7 rfl)))))))
theorem same__law_windows (ss : List Sv) (μ : Mu) (r : Res Sv) (hs : ss.length = 3) (wf : Wf μ) (e : F__law_windows ss μ = some r) : ∃ r', G__law_windows (ini 11 ss) μ = some r' ∧ Agree μ.length r r' :=
  same_D (n := 2) (by decide) (fun ds h => by
    obtain ⟨a1, a2, rfl⟩ := len2 h
    exact r_e (tt__law_windows a1 a2)) ss μ r hs wf e
noncomputable def T__law_pair (a0 a1 : PyData) : S PyData :=
  (((((S.ret a1).bind fun x1 => S.lift (oLen x1)).bind fun x2 => S.lift (rngD x2)).bind fun ds6 => S.foldF (fun (s3 : PUnit) d4 => (S.ret d4).bind fun t5 => (((((S.ret a1).bind fun x7 => S.lift (oLen x7)).bind fun x8 => S.lift (rngD x8)).bind fun ds12 => S.foldF (fun (s9 : PUnit) d10 => (S.ret d10).bind fun t11 => ((((S.ret a1).bind fun x13 => (S.ret t11).bind fun x14 => S.lift (oIx x13 x14)).bind fun x15 => (S.ret (PyData.int 1)).bind fun x16 => S.lift (oIx x15 x16)).bind fun v17 =>
  (((S.ret v17).bind fun x18 => (S.ret PyData.none).bind fun x19 => S.lift (cIs true x18 x19)).bind fun z20 => if z20 = true then ((((S.ret a0).bind fun x25 => ((S.ret t5).bind fun x23 => ((S.ret t11).bind fun x21 => (S.ret []).bind fun as22 => S.ret (x21 :: as22)).bind fun as24 => S.ret (x23 :: as24)).bind fun as26 => S.ret (x25 :: as26)).bind (u3 T__law_gap)).bind fun v27 =>
  (((((S.ret a1).bind fun x28 => (S.ret t5).bind fun x29 => S.lift (oIx x28 x29)).bind fun x30 => (S.ret (PyData.int 0)).bind fun x31 => S.lift (oIx x30 x31)).bind fun x34 => ((S.ret v17).bind fun x32 => (S.ret v27).bind fun x33 => S.lift (oAdd x32 x33)).bind fun x35 => S.lift (cGt x34 x35)).bind fun z36 => if z36 = true then ((((S.ret t5).bind fun x39 => ((S.ret t11).bind fun x37 => (S.ret []).bind fun as38 => S.ret (x37 :: as38)).bind fun as40 => S.ret (x39 :: as40)).bind fun as41 => S.ret (PyData.tuple as41)).bind fun x42 => S.ret (.rt x42)) else (S.ret (.nx PUnit.unit)))) else (S.ret (.nx PUnit.unit))))) ds12 PUnit.unit).bind fun o43 => flF o43 fun (s44 : PUnit) => S.ret (.nx PUnit.unit))) ds6 PUnit.unit).bind fun o45 => flR o45 fun (s46 : PUnit) =>
  (S.ret PyData.none))
noncomputable abbrev F__law_pair : List Sv → M Sv := liftF (u2 T__law_pair)
noncomputable def G__law_pair : Rho → M Out :=
  (gSeq (gFor (rngV (callV bLen (argC (slot 1) argN))) (gNm 2)
  (gFor (rngV (callV bLen (argC (slot 1) argN))) (gNm 3)
  (gSeq (gSet 4 (bin pIx (bin pIx (slot 1) (slot 3)) (con (.int 1))))
  (gIf (tst (bin (pIs true) (slot 4) (con .none)))
  (gSeq (gSet 5 (callF F__law_gap 3 (argC (slot 0) (argC (slot 2) (argC (slot 3) argN)))))
  (gIf (tst (bin pGt (bin pIx (bin pIx (slot 1) (slot 2)) (con (.int 0))) (bin (pAdd false) (slot 4) (slot 5))))
  (gRet (tupV (argC (slot 2) (argC (slot 3) argN))))
  gSkip))
  gSkip))))
  (gRet (con .none)))
theorem tt__law_pair (a0 a1 : PyData) : Jd [some (.im a0), some (.im a1), none, none, none, none] G__law_pair (T__law_pair a0 a1) pR := by
  unfold T__law_pair G__law_pair
  exact (r_flow (s_forF (h := fun (s : PUnit) => [some (.im a0), some (.im a1), none, none, none, none]) PUnit.unit (w_rng (e_bl1 bl_len (e_w (e_slot 1 rfl)))) (.keep (.keep (.drop (.drop (.drop (.drop .nil)))))) (fun s3 d4 => b_tgF (u := fun d4 => (S.ret d4)) (e' := fun (t : PyData) => [some (.im a0), some (.im a1), some (.im t), none, none, none]) d4 (tg_nm 2 d4) fun t5 => (f_flowL (fun (s44 : PUnit) => PUnit.unit) (s_forF (h := fun (s : PUnit) => [some (.im a0), some (.im a1), some (.im t5), none, none, none]) PUnit.unit (w_rng (e_bl1 bl_len (e_w (e_slot 1 rfl)))) (.keep (.keep (.keep (.drop (.drop (.drop .nil)))))) (fun s9 d10 => b_tgF (u := fun d10 => (S.ret d10)) (e' := fun (t : PyData) => [some (.im a0), some (.im a1), some (.im t5), some (.im t), none, none]) d10 (tg_nm 3 d10) fun t11 => (f_seq (s_setI 4 (e_bin op_ix' (e_bin op_ix' (e_slot 1 rfl) (e_w (e_slot 3 rfl))) (e_w (e_con (PyData.int 1))))) fun v17 =>
  (q_if (u_bin op_is' (e_slot 4 rfl) (e_w (e_con PyData.none))) (f_seq (s_setI 5 (e_call (a_cons' (e_slot 0 rfl) (a_cons' (e_slot 2 rfl) (a_cons' (e_slot 3 rfl) a_nil'))))) fun v27 =>
  (q_if (u_bin op_cmp' (e_bin op_ix' (e_bin op_ix' (e_slot 1 rfl) (e_w (e_slot 2 rfl))) (e_w (e_con (PyData.int 0)))) (e_w (e_bin op_add' (e_slot 4 rfl) (e_w (e_slot 5 rfl))))) (f_ret (e_tup (a_cons' (e_slot 2 rfl) (a_cons' (e_slot 3 rfl) a_nil')))) (f_skip PUnit.unit (.keep (.keep (.keep (.drop (.drop (.drop .nil))))))))) (f_skip PUnit.unit (.keep (.keep (.keep (.drop (.drop (.drop .nil))))))))))) fun s44 => (.keep (.keep (.drop (.drop (.drop (.drop .nil))))))))) fun s46 =>
  (r_ret (e_con PyData.none)))
theorem same__law_pair (ss : List Sv) (μ : Mu) (r : Res Sv) (hs : ss.length = 2) (wf : Wf μ) (e : F__law_pair ss μ = some r) : ∃ r', G__law_pair (ini 6 ss) μ = some r' ∧ Agree μ.length r r' :=
  same_T (n := 2) (fun ds h => by
    obtain ⟨a0, a1, rfl⟩ := len2 h
    exact r_e (tt__law_pair a0 a1)) ss μ r hs wf e
noncomputable def T__law_early (a0 a1 : PyData) : S PyData :=
  ((S.ret []).bind fun v1 =>
  (((((S.ret a1).bind fun x2 => S.lift (oLen x2)).bind fun x3 => S.lift (rngD x3)).bind fun ds7 => S.foldM (fun (s4 : List PyData) d5 => (S.ret d5).bind fun t6 => (((S.ret (PyData.int 0)).bind fun x8 => (S.ret []).bind fun as9 => S.ret (x8 :: as9)).bind fun v10 =>
  (((((S.ret a1).bind fun x11 => S.lift (oLen x11)).bind fun x12 => S.lift (rngD x12)).bind fun ds16 => S.foldM (fun (s13 : List PyData) d14 => (S.ret d14).bind fun t15 => ((((((S.ret a1).bind fun x17 => (S.ret t15).bind fun x18 => S.lift (oIx x17 x18)).bind fun x19 => (S.ret (PyData.int 0)).bind fun x20 => S.lift (oIx x19 x20)).bind fun x27 => (((S.ret a0).bind fun x25 => ((S.ret t15).bind fun x23 => ((S.ret t6).bind fun x21 => (S.ret []).bind fun as22 => S.ret (x21 :: as22)).bind fun as24 => S.ret (x23 :: as24)).bind fun as26 => S.ret (x25 :: as26)).bind (u3 T__law_gap)).bind fun x28 => S.lift (oSub x27 x28)).bind fun x29 => S.lift (appD s13 x29)).bind fun s31 => S.ret (s31))) ds16 (v10)).bind fun v32 =>
  ((((S.ret (PyData.list v32)).bind fun x33 => S.lift (oBest max x33)).bind fun x34 => S.lift (appD s4 x34)).bind fun s36 => S.ret (s36))))) ds7 (v1)).bind fun v37 =>
  ((S.ret (PyData.list v37)).bind fun x38 => S.lift (oTuple x38))))
noncomputable abbrev F__law_early : List Sv → M Sv := liftF (u2 T__law_early)
noncomputable def G__law_early : Rho → M Out :=
  (gSeq (gSet 2 (lstV true argN))
  (gSeq (gFor (rngV (callV bLen (argC (slot 1) argN))) (gNm 3)
  (gSeq (gSet 4 (lstV true (argC (con (.int 0)) argN)))
  (gSeq (gFor (rngV (callV bLen (argC (slot 1) argN))) (gNm 5)
  (gExpr (appV (slot 4) (bin pSub (bin pIx (bin pIx (slot 1) (slot 5)) (con (.int 0))) (callF F__law_gap 3 (argC (slot 0) (argC (slot 5) (argC (slot 3) argN))))))))
  (gExpr (appV (slot 2) (callV bMaxA (argC (slot 4) argN)))))))
  (gRet (callV bTuple (argC (slot 2) argN)))))
theorem tt__law_early (a0 a1 : PyData) : Jd [some (.im a0), some (.im a1), none, none, none, none] G__law_early (T__law_early a0 a1) pR := by
  unfold T__law_early G__law_early
  exact (r_seq (s_setM 2 (m_lst a_nil')) fun v1 =>
  (r_seq (s_for' (h := fun (s : List PyData) => [some (.im a0), some (.im a1), some (.mt s), none, none, none]) (v1) (w_rng (e_bl1 bl_len (e_w (e_slot 1 rfl)))) (.keep (.keep (.keep (.drop (.drop (.drop .nil)))))) (fun s4 d5 => b_tg (u := fun d5 => (S.ret d5)) (e' := fun (t : PyData) => [some (.im a0), some (.im a1), some (.mt s4), some (.im t), none, none]) d5 (tg_nm 3 d5) fun t6 => ((r_seq (s_setM 4 (m_lst (a_cons' (e_con (PyData.int 0)) a_nil'))) fun v10 =>
  ((r_seq (s_for' (h := fun (s : List PyData) => [some (.im a0), some (.im a1), some (.mt s4), some (.im t6), some (.mt s), none]) (v10) (w_rng (e_bl1 bl_len (e_w (e_slot 1 rfl)))) (.keep (.keep (.keep (.keep (.keep (.drop .nil)))))) (fun s13 d14 => b_tg (u := fun d14 => (S.ret d14)) (e' := fun (t : PyData) => [some (.im a0), some (.im a1), some (.mt s4), some (.im t6), some (.mt s13), some (.im t)]) d14 (tg_nm 5 d14) fun t15 => ((n_end (fun (s31 : List PyData) => (s31)) (s_app 4 rfl (e_bin op_sub' (e_bin op_ix' (e_bin op_ix' (e_slot 1 rfl) (e_w (e_slot 5 rfl))) (e_w (e_con (PyData.int 0)))) (e_w (e_call (a_cons' (e_slot 0 rfl) (a_cons' (e_slot 5 rfl) (a_cons' (e_slot 3 rfl) a_nil')))))) rfl) fun s31 => (.keep (.keep (.keep (.keep (.keep (.drop .nil)))))))))) fun v32 =>
  ((n_end (fun (s36 : List PyData) => (s36)) (s_app 2 rfl (e_bl1 bl_best (e_slotW 4 rfl)) rfl) fun s36 => (.keep (.keep (.keep (.drop (.drop (.drop .nil)))))))))))))) fun v37 =>
  (r_ret (e_bl1 bl_tuple (e_slotW 2 rfl)))))
theorem same__law_early (ss : List Sv) (μ : Mu) (r : Res Sv) (hs : ss.length = 2) (wf : Wf μ) (e : F__law_early ss μ = some r) : ∃ r', G__law_early (ini 6 ss) μ = some r' ∧ Agree μ.length r r' :=
  same_T (n := 2) (fun ds h => by
    obtain ⟨a0, a1, rfl⟩ := len2 h
    exact r_e (tt__law_early a0 a1)) ss μ r hs wf e
noncomputable def T__law_part (a0 a1 a2 : PyData) : S PyData :=
  (((((S.ret a0).bind fun x3 => ((S.ret a1).bind fun x1 => (S.ret []).bind fun as2 => S.ret (x1 :: as2)).bind fun as4 => S.ret (x3 :: as4)).bind (u2 T__law_early)).bind fun x9 => (((S.ret a1).bind fun x5 => (S.ret a2).bind fun x6 => S.lift (oIx x5 x6)).bind fun x7 => (S.ret (PyData.int 1)).bind fun x8 => S.lift (oIx x7 x8)).bind fun x10 => S.ret (x9, x10)).bind fun v11 =>
  ((S.ret []).bind fun v12 =>
  (((((S.ret a1).bind fun x13 => S.lift (oLen x13)).bind fun x14 => S.lift (rngD x14)).bind fun ds18 => S.foldM (fun (s15 : List PyData) d16 => (S.ret d16).bind fun t17 => (((((S.ret v11.2).bind fun x19 => (S.ret PyData.none).bind fun x20 => S.lift (cIs false x19 x20)).bind fun z33 => bOr z33 ((((S.ret v11.1).bind fun x21 => (S.ret t17).bind fun x22 => S.lift (oIx x21 x22)).bind fun x29 => (((S.ret a0).bind fun x27 => ((S.ret t17).bind fun x25 => ((S.ret a2).bind fun x23 => (S.ret []).bind fun as24 => S.ret (x23 :: as24)).bind fun as26 => S.ret (x25 :: as26)).bind fun as28 => S.ret (x27 :: as28)).bind (u3 T__law_gap)).bind fun x30 => S.lift (oAdd x29 x30)).bind fun x31 => (S.ret v11.2).bind fun x32 => S.lift (cLe x31 x32))).bind fun z37 => if z37 = true then (((S.ret t17).bind fun x34 => S.lift (appD s15 x34)).bind fun s36 => S.ret (s36)) else (S.ret (s15))).bind fun s39 => S.ret (s39))) ds18 (v12)).bind fun v40 =>
  ((S.ret (PyData.list v40)).bind fun x41 => S.lift (oTuple x41)))))
noncomputable abbrev F__law_part : List Sv → M Sv := liftF (u3 T__law_part)
noncomputable def G__law_part : Rho → M Out :=
  (gSeq (gPar 5 6 (argC (callF F__law_early 2 (argC (slot 0) (argC (slot 1) argN))) (argC (bin pIx (bin pIx (slot 1) (slot 2)) (con (.int 1))) argN)))
  (gSeq (gSet 3 (lstV true argN))
  (gSeq (gFor (rngV (callV bLen (argC (slot 1) argN))) (gNm 4)
  (gIf (orT (tst (bin (pIs false) (slot 6) (con .none))) (tst (bin pLe (bin (pAdd false) (bin pIx (slot 5) (slot 4)) (callF F__law_gap 3 (argC (slot 0) (argC (slot 4) (argC (slot 2) argN))))) (slot 6))))
  (gExpr (appV (slot 3) (slot 4)))
  gSkip))
  (gRet (callV bTuple (argC (slot 3) argN))))))
theorem tt__law_part (a0 a1 a2 : PyData) : Jd [some (.im a0), some (.im a1), some (.im a2), none, none, none, none] G__law_part (T__law_part a0 a1 a2) pR := by
  unfold T__law_part G__law_part
  exact (r_seq (s_par' 5 6 (e_call (a_cons' (e_slot 0 rfl) (a_cons' (e_slot 1 rfl) a_nil'))) (e_bin op_ix' (e_bin op_ix' (e_slot 1 rfl) (e_w (e_slot 2 rfl))) (e_w (e_con (PyData.int 1))))) fun v11 =>
  (r_seq (s_setM 3 (m_lst a_nil')) fun v12 =>
  (r_seq (s_for' (h := fun (s : List PyData) => [some (.im a0), some (.im a1), some (.im a2), some (.mt s), none, some (.im v11.1), some (.im v11.2)]) (v12) (w_rng (e_bl1 bl_len (e_w (e_slot 1 rfl)))) (.keep (.keep (.keep (.keep (.drop (.keep (.keep .nil))))))) (fun s15 d16 => b_tg (u := fun d16 => (S.ret d16)) (e' := fun (t : PyData) => [some (.im a0), some (.im a1), some (.im a2), some (.mt s15), some (.im t), some (.im v11.1), some (.im v11.2)]) d16 (tg_nm 4 d16) fun t17 => ((n_end (fun (s39 : List PyData) => (s39)) (q_if (P := pN fun (s : List PyData) => [some (.im a0), some (.im a1), some (.im a2), some (.mt s), some (.im t17), some (.im v11.1), some (.im v11.2)]) (u_or (u_bin op_is' (e_slot 6 rfl) (e_w (e_con PyData.none))) (u_bin op_cmp' (e_bin op_add' (e_bin op_ix' (e_slot 5 rfl) (e_w (e_slot 4 rfl))) (e_w (e_call (a_cons' (e_slot 0 rfl) (a_cons' (e_slot 4 rfl) (a_cons' (e_slot 2 rfl) a_nil')))))) (e_w (e_slot 6 rfl)))) ((n_end (fun (s36 : List PyData) => (s36)) (s_app 3 rfl (e_slot 4 rfl) rfl) fun s36 => (.keep (.keep (.keep (.keep (.keep (.keep (.keep .nil))))))))) (n_skip (s15) (.keep (.keep (.keep (.keep (.keep (.keep (.keep .nil))))))))) fun s39 => (.keep (.keep (.keep (.keep (.drop (.keep (.keep .nil))))))))))) fun v40 =>
  (r_ret (e_bl1 bl_tuple (e_slotW 3 rfl))))))
theorem same__law_part (ss : List Sv) (μ : Mu) (r : Res Sv) (hs : ss.length = 3) (wf : Wf μ) (e : F__law_part ss μ = some r) : ∃ r', G__law_part (ini 7 ss) μ = some r' ∧ Agree μ.length r r' :=
  same_T (n := 3) (fun ds h => by
    obtain ⟨a0, a1, a2, rfl⟩ := len3 h
    exact r_e (tt__law_part a0 a1 a2)) ss μ r hs wf e
end Pf

namespace Pf
open PySem PySem.Spec PyProof.Rows L2
namespace Err_NoTable
/-! ### an error of the program's own, with one field -/
section
open PySem.W PySem.Calls PySem.HandSPX
def tlArgs (a b : Pos) : Arguments := { vararg := none, kwarg := none, posonlyargs := [], kwonlyargs := [], kw_defaults := [], defaults := [], args := [{ arg := "self", annotation := none, pos := a }, { arg := "pair", annotation := none, pos := b }] }
def tlBody (a b c d : Pos) : List Stmt := [.Assign [.Attribute (.Name "self" a) "pair" b] (.Name "pair" c) d]
def tlScope : Scope := { isGenerator := false, isCoroutine := false, more := [], kind := .function, names := [(PySem.Str.ofString "self", .local), (PySem.Str.ofString "pair", .local)] }
/-- what stands of the class, at C, its __init__ at f -/
structure TL (K : Frag) (mg : Str → Option Value) (C f : Addr) : Prop where
  nC : nsIn K mainGlobals "NoTable" = some (some (.ref C))
  gC : mg "NoTable" = some (.ref C)
  ob : ∃ nm q N bs bm sn sub ab col dd m0 m1 m2 m3 m5, K.lookup C = some (excClassObj nm q C N bs bm true sn sub ab col dd m0 m1 m2 m3 m5 "ValueError.__new__") ∧ refsVE bm = true
  f_set : findIn K (.ref C) "__setattr__" = some (some (.builtin "object.__setattr__"))
  f_get : findIn K (.ref C) "__getattribute__" = some (some (.builtin "BaseException.__getattribute__"))
  f_at : findIn K (.ref C) "__getattr__" = some none
  f_fld : findIn K (.ref C) "pair" = some none
  f_ini : findIn K (.ref C) "__init__" = some (some (.ref f))
  f_cls : findIn K (.ref C) "__class__" = some (some (.builtin "object.__class__"))
  s_get : specialIn K (.builtin "object.__class__") "__get__" = some (some (.builtin "getset_descriptor.__get__"))
  tk : takesIn K (.builtin "object.__class__") = some true
  mro : mroIn K C (.type "object") = some true
  tyF : typeIn K (.ref f) = some (.type "function")
  kp : keepIn K (.ref C) = true
  sub : subIn K (.ref C) (.type "BaseException") = some true
  tyC : typeIn K (.ref C) = some (.type "type")
  dct : hasDictIn K C = true
  fn : ∃ (oc : Value) (od : Option Addr) (kV doc pm : Value) (an : Option Addr) (cdv ct : Value) (osl : Array (Option Value)) (p1 p2 q1 q2 q3 q4 : Pos),
    K.lookup f = some ⟨oc, od, .func (fnOf "__init__" "NoTable.__init__" (tlArgs p1 p2) (tlBody q1 q2 q3 q4) tlScope .none kV doc pm an cdv ct), osl⟩ ∧ codeIn K cdv "NoTable.__init__" = true
theorem sz_one (v : Value) : [v].length ≤ sizeLine := by
  rw [sizeLine_eq]
  show 1 ≤ 16777216
  decide
theorem ld_param {M : Model} {s : Shared} {nm : Str} {sc : Scope} {L a : Addr} {cdv : Value} {m : Str → Option Value} {y : Str} {pos : Pos} {v : Value} {Q : Value → Shared → Prop} {A : Around} {E : Value → Shared → Prop} (hn : s.heap.Ns L m) (hv : m y = some v) (h : Q v s)
    (hk : sc.kind = .function := by rfl) (hl : (envOfC nm sc L a cdv).kindOf y = some .local := by rfl) (hd : (y == ("__debug__" : Str)) = false := by decide) : wpAny M A (eval (.Name y pos) (envOfC nm sc L a cdv)) Q E s := by
  refine wpAny_Name (wpAny_loadName_local hk hl hn hv h) hd
/-- behind __init__ -/
structure TlEnd (h h' : Heap) (x C dx t1 : Addr) (v : Value) : Prop where
  rest : ∀ b o, b ≠ x → h.get? b = some o → h'.get? b = some o
  self : h'.get? x = some { cls := .ref C, data := .fields #[.ref t1, .none, .none, .none, .bool false, .none], dict := some dx }
  late : h.objs.size ≤ dx
  apart : dx ≠ x
  fld : h'.Ns1 dx (fun y => if y = "pair" then some v else none)
/-- behind the making -/
structure TlMade (h h' : Heap) (e C d : Addr) (v : Value) : Prop where
  rest : ∀ b o, h.get? b = some o → h'.get? b = some o
  new : h.objs.size ≤ e
  self : ∃ oe vs, h'.get? e = some oe ∧ oe.cls = .ref C ∧ oe.dict = some d ∧ oe.data = .fields vs ∧ vs[1]? = some .none
  late : h.objs.size ≤ d
  apart : d ≠ e
  fld : h'.Ns1 d (fun y => if y = "pair" then some v else none)
variable {prog : Program} {w : World} {A : Around} {E : Value → Shared → Prop} {R : Result → Shared → Prop} {s : Shared} {K : Frag} {mg : Str → Option Value} {C f : Addr}
theorem tl_init (T : TL K mg C f) {x t0 : Addr} {v : Value} (X : K.In s.heap) (lim : s.heap.NoLimit) (hx : s.heap.get? x = some (excO C t0)) (room : A.depth < recursionLimit)
    (fin : ∀ h' tk dx, TlEnd s.heap h' x C dx t0 v → R (.ok (.ret .none)) { s with heap := h', toks := tk }) : codeAny (model prog w) A (.call (.ref f) ⟨[.ref x, v], []⟩) R s := by
  obtain ⟨oc, od, kV, doc, pm, an, cdv, ct, osl, p1, p2, q1, q2, q3, q4, ho, hcd⟩ := T.fn
  obtain ⟨nm, q, N, bs, bm, sn, sub, ab, col, dd, m0, m1, m2, m3, m5, hC, hbm⟩ := T.ob
  have cd : clsIn K C = some { name := nm, bases := bs, mro := .ref C :: bm, ns := N, qualname := q, hasDict := true, slotNames := sn, subclasses := sub, abstract := ab, collection := col, hasDel := false } := by
    unfold clsIn
    rw [hC] <;> rfl
  refine Att.call_fn (binds := [("self", .ref x), ("pair", v)]) X lim ho hcd room (BindsTo.of_eq (by first | rfl | with_unfolding_all rfl)) (by first | rfl | decide | with_unfolding_all rfl) (fun s₁ ic => ?_) rfl rfl rfl
  obtain ⟨h₁, tk₁, rfl⟩ := ic.toInCall.same
  have keep := ic.toInCall.keep
  have ns := ic.toInCall.ns
  have X₁ : K.In h₁ := X.keeps keep
  have hx₁ := keep _ _ hx
  show wpAny _ _ (execs _ _) _ _ _
  refine wpAny_execs_cons (plainObj_wpAny_Assign_Attribute (ld_param (v := v) ns (by first | rfl | with_unfolding_all rfl | kernel_rfl) (ld_param (v := .ref x) ns (by first | rfl | with_unfolding_all rfl | kernel_rfl) ?_)))
  refine set_plain X₁ (ox := excO C t0) (od := none) ⟨hx₁, rfl, rfl, trivial⟩ T.f_set (exc_osa X₁ hx₁ cd (show refsVE (.ref C :: bm) = true from hbm) rfl T.f_fld (fun h₃ tk₃ dx k₃ dn dne hx₃ hn₃ => ?_))
  have lt : s.heap.objs.size < h₁.objs.size := ns.lt
  show wpAny _ _ (execs _ _) _ _ _
  exact wpAny_execs_nil (fin h₃ tk₃ dx ⟨fun b o hb e => k₃ b o hb (keep b o e), hx₃, Nat.le_of_lt (Nat.lt_of_lt_of_le lt dn), dne, hn₃⟩)
theorem tl_made (T : TL K mg C f) {v : Value} (X : K.In s.heap) (lim : s.heap.NoLimit) (room : A.depth + 1 < recursionLimit) (fin : ∀ h' tk e d, TlMade s.heap h' e C d v → R (.ok (.ret (.ref e))) { s with heap := h', toks := tk }) :
    codeAny (model prog w) A (.call (.ref C) ⟨[v], []⟩) R s := by
  obtain ⟨nm, q, N, bs, bm, sn, sub, ab, col, dd, m0, m1, m2, m3, m5, hC, hbm⟩ := T.ob
  obtain ⟨hp, g, dr, tk, os⟩ := s
  have keep : ∀ b o, hp.get? b = some o → ((hp.push (kdv_tup [v])).push (excO C hp.objs.size)).get? b = some o := fun b o e => Heap.get?_push_of_some _ (Heap.get?_push_of_some _ e)
  have at_ : ((hp.push (kdv_tup [v])).push (excO C hp.objs.size)).get? (hp.objs.size + 1) = some (excO C hp.objs.size) := by heap_get
  refine call_own F.excBase_ValueError (fun Y => refsVE_contains Y bm hbm) (X _ _ hC) (looks_findIn X T.f_ini) (fun self => bind_fn X self T.tyF) (sz_one v) ?_
  refine tl_init (s := ⟨(hp.push (kdv_tup [v])).push (excO C hp.objs.size), g, dr, tk, os⟩) T (X.keeps keep) (lim.keeps keep) at_ (show A.depth + 1 < recursionLimit from room) fun h' tk' dx ⟨k', hx, dn, dne, hns⟩ => ?_
  have old : ∀ b o, hp.get? b = some o → h'.get? b = some o := fun b o e => k' b o (Nat.ne_of_lt (Nat.lt_succ_of_lt (Heap.lt_size e))) (keep b o e)
  have z : hp.objs.size + 1 + 1 ≤ dx := by
    first
      | (simpa only [Heap.size_push] using dn)
      | exact dn
      | (have q := dn; rw [Heap.size_push, Heap.size_push] at q; exact q)
  refine ⟨rfl, fin h' tk' (hp.objs.size + 1) dx ⟨old, Nat.le_succ _, ⟨_, _, hx, rfl, rfl, rfl, rfl⟩, Nat.le_trans (Nat.le_trans (Nat.le_succ _) (Nat.le_succ _)) z, dne, hns⟩⟩
end
theorem rel_bound {v : V} {v' : Value} (r : RelV v v') (g : Str) : RelO (List.lookup g [(("pair" : Str), v)]) (if g = "pair" then some v' else none) := by
  by_cases h : g = "pair"
  · subst h
    rw [if_pos rfl, show List.lookup ("pair" : Str) [(("pair" : Str), v)] = some v by simp [List.lookup]]
    exact r
  · rw [if_neg h, show List.lookup g [(("pair" : Str), v)] = none by
      have n : (g == ("pair" : Str)) = false := by simpa using h
      simp [List.lookup, n]]
    trivial
section
variable {X : Cx} {E : XK} {C f : Addr} {k : Nat} {a e : Expr} {es : List Expr} {Fa : Rho → M Sv} {Fs Fk : Rho → M (List Sv)} {p pos pos2 : Pos}
def mkTl (C : Addr) (ta : TA) : L2.St → Hp → XK → Prop := fun σ H Q => ta σ H fun vs H1 => ∃ v, vs = [v] ∧ ∀ d, H1 d = none → Q (.ref C) (some d) (upd H1 d (.xd [(("pair" : Str), v)]))
theorem pmk_tl {ta : TA} (T : TL X.K X.mg C f) (hr : Room k X.A) (ha : PA X [a] ta) (hg : Gl X "NoTable" := by rfl) (he : starEach (a :: []) X.env = (false, eval a X.env) :: starEach [] X.env := by rfl) (hpl : (backTo pos (starEach [] X.env)).any (·.1) = false := by rfl) :
    PMk X (.Call (.Name "NoTable" p) [a] [] pos) (mkTl C ta) := by
  intro pins s σ H Q I h
  refine wpAny_Call_Name_kw (ld_glob I hg T.gC (PySem.W.callWith_K (h₀ := X.base) I.ok.mod.kin T.kp (thn (ha.run pos pins s σ H _ I h) fun us s1 ⟨vs, H1, I1, r1, v, ev, q1⟩ => ⟨I1.kIn, ?_⟩) he hpl))
  subst ev
  obtain ⟨u, rfl, rv⟩ := vals1 r1
  show wpAny _ _ (call (.ref C) [u]) _ _ _
  have lim := I1.nolimit
  obtain ⟨hp, g, dr, tk, os⟩ := s1
  refine wpAny_call (tl_made T I1.kIn lim (by have := hr.dp; omega) fun h' tk' e d mk => ?_)
  show MkP X pins σ Q (.ref e) ⟨h', g, dr, tk', os⟩
  obtain ⟨oe, fv, hoe, hc, hd, hdat, h1⟩ := mk.self
  obtain ⟨G, g1, g2⟩ := restrict h' fun b => decide (b ≠ e)
  have gk : ∀ b, b ≠ e → G.get? b = h'.get? b := fun b hb => g1 b (decide_eq_true hb)
  have ge : G.get? e = none := g2 e (by simp)
  have old : ∀ b o, hp.get? b = some o → G.get? b = some o := fun b o q => (gk b (Nat.ne_of_lt (Nat.lt_of_lt_of_le (Heap.lt_size q) mk.new))).trans (mk.rest b o q)
  have ob : ObjOk X.prog X.w (upd H1 d (.xd [(("pair" : Str), v)])) G d (.xd [(("pair" : Str), v)]) := ⟨_, mk.fld.at (fun o q => (gk d mk.apart).trans q), fun g => rel_bound rv g⟩
  have J : Inv X pins σ (upd H1 d (.xd [(("pair" : Str), v)])) ⟨G, g, dr, tk', os⟩ := I1.laid (t' := tk') old mk.late ob
  have none_e : upd H1 d (.xd [(("pair" : Str), v)]) e = none := by
    rw [upd_ne (Ne.symm mk.apart)]
    exact I1.hok.fresh mk.new
  refine ⟨e, oe, fv, ⟨G, g, dr, tk', os⟩, _, .ref C, some d, rfl, J, fun b o q => ?_, ge, hoe, ⟨hc, hd⟩, hdat, h1, none_e, rfl, I1.bare, raises_own T.sub T.tyC, q1 d (I1.hok.fresh mk.late)⟩
  have q0 : G.get? b = some o := q
  have hb : b ≠ e := fun z => by
    rw [z, ge] at q0
    cases q0
  exact (gk b hb).symm.trans q0
def gRaise (Fa : Rho → M Sv) (ρ : Rho) : M Out := (Fa ρ).bind fun s => M.thr ⟨"NoTable", some ("pair", s)⟩
theorem s_raise (T : TL X.K X.mg C f) (hc : X.calm = true) (hr : Room k X.A) (tk : Takes X (fun cls d _ H => E cls d H)) (ha : PX X E a Fa) (hg : Gl X "NoTable" := by rfl) (he : starEach (a :: []) X.env = (false, eval a X.env) :: starEach [] X.env := by rfl) (hpl : (backTo pos (starEach [] X.env)).any (·.1) = false := by rfl) :
    PSX X E (.Raise (some (.Call (.Name "NoTable" p) [a] [] pos)) none pos2) (gRaise Fa) := ps_weak (ps_raise hc tk (pmk_tl T hr (pa_cons ha pa_nil he) hg he hpl)) fun D σ H ⟨W, ρ, μ, r, h, e, q⟩ => by
  refine tX_bind h e q fun v s W1 H1 μ1 g1 h1 rs e1 q1 => ⟨v, rfl, fun d hd => ?_⟩
  cases e1
  exact q1 W1 _ (.ref C) (some d) ((Grow.refl _ _ _).out hd fun b hb => upd_ne hb) (h1.rel.lay hd) ⟨⟨C, T.nC, rfl⟩, d, v, rfl, upd_same, rs⟩
end
end Err_NoTable
namespace Err_BadPushes
/-! ### an error of the program's own, with one field -/
section
open PySem.W PySem.Calls PySem.HandSPX
def tlArgs (a b : Pos) : Arguments := { vararg := none, kwarg := none, posonlyargs := [], kwonlyargs := [], kw_defaults := [], defaults := [], args := [{ arg := "self", annotation := none, pos := a }, { arg := "index", annotation := none, pos := b }] }
def tlBody (a b c d : Pos) : List Stmt := [.Assign [.Attribute (.Name "self" a) "index" b] (.Name "index" c) d]
def tlScope : Scope := { isGenerator := false, isCoroutine := false, more := [], kind := .function, names := [(PySem.Str.ofString "self", .local), (PySem.Str.ofString "index", .local)] }
/-- what stands of the class, at C, its __init__ at f -/
structure TL (K : Frag) (mg : Str → Option Value) (C f : Addr) : Prop where
  nC : nsIn K mainGlobals "BadPushes" = some (some (.ref C))
  gC : mg "BadPushes" = some (.ref C)
  ob : ∃ nm q N bs bm sn sub ab col dd m0 m1 m2 m3 m5, K.lookup C = some (excClassObj nm q C N bs bm true sn sub ab col dd m0 m1 m2 m3 m5 "ValueError.__new__") ∧ refsVE bm = true
  f_set : findIn K (.ref C) "__setattr__" = some (some (.builtin "object.__setattr__"))
  f_get : findIn K (.ref C) "__getattribute__" = some (some (.builtin "BaseException.__getattribute__"))
  f_at : findIn K (.ref C) "__getattr__" = some none
  f_fld : findIn K (.ref C) "index" = some none
  f_ini : findIn K (.ref C) "__init__" = some (some (.ref f))
  f_cls : findIn K (.ref C) "__class__" = some (some (.builtin "object.__class__"))
  s_get : specialIn K (.builtin "object.__class__") "__get__" = some (some (.builtin "getset_descriptor.__get__"))
  tk : takesIn K (.builtin "object.__class__") = some true
  mro : mroIn K C (.type "object") = some true
  tyF : typeIn K (.ref f) = some (.type "function")
  kp : keepIn K (.ref C) = true
  sub : subIn K (.ref C) (.type "BaseException") = some true
  tyC : typeIn K (.ref C) = some (.type "type")
  dct : hasDictIn K C = true
  fn : ∃ (oc : Value) (od : Option Addr) (kV doc pm : Value) (an : Option Addr) (cdv ct : Value) (osl : Array (Option Value)) (p1 p2 q1 q2 q3 q4 : Pos),
    K.lookup f = some ⟨oc, od, .func (fnOf "__init__" "BadPushes.__init__" (tlArgs p1 p2) (tlBody q1 q2 q3 q4) tlScope .none kV doc pm an cdv ct), osl⟩ ∧ codeIn K cdv "BadPushes.__init__" = true
theorem sz_one (v : Value) : [v].length ≤ sizeLine := by
  rw [sizeLine_eq]
  show 1 ≤ 16777216
  decide
theorem ld_param {M : Model} {s : Shared} {nm : Str} {sc : Scope} {L a : Addr} {cdv : Value} {m : Str → Option Value} {y : Str} {pos : Pos} {v : Value} {Q : Value → Shared → Prop} {A : Around} {E : Value → Shared → Prop} (hn : s.heap.Ns L m) (hv : m y = some v) (h : Q v s)
    (hk : sc.kind = .function := by rfl) (hl : (envOfC nm sc L a cdv).kindOf y = some .local := by rfl) (hd : (y == ("__debug__" : Str)) = false := by decide) : wpAny M A (eval (.Name y pos) (envOfC nm sc L a cdv)) Q E s := by
  refine wpAny_Name (wpAny_loadName_local hk hl hn hv h) hd
/-- behind __init__ -/
structure TlEnd (h h' : Heap) (x C dx t1 : Addr) (v : Value) : Prop where
  rest : ∀ b o, b ≠ x → h.get? b = some o → h'.get? b = some o
  self : h'.get? x = some { cls := .ref C, data := .fields #[.ref t1, .none, .none, .none, .bool false, .none], dict := some dx }
  late : h.objs.size ≤ dx
  apart : dx ≠ x
  fld : h'.Ns1 dx (fun y => if y = "index" then some v else none)
/-- behind the making -/
structure TlMade (h h' : Heap) (e C d : Addr) (v : Value) : Prop where
  rest : ∀ b o, h.get? b = some o → h'.get? b = some o
  new : h.objs.size ≤ e
  self : ∃ oe vs, h'.get? e = some oe ∧ oe.cls = .ref C ∧ oe.dict = some d ∧ oe.data = .fields vs ∧ vs[1]? = some .none
  late : h.objs.size ≤ d
  apart : d ≠ e
  fld : h'.Ns1 d (fun y => if y = "index" then some v else none)
variable {prog : Program} {w : World} {A : Around} {E : Value → Shared → Prop} {R : Result → Shared → Prop} {s : Shared} {K : Frag} {mg : Str → Option Value} {C f : Addr}
theorem tl_init (T : TL K mg C f) {x t0 : Addr} {v : Value} (X : K.In s.heap) (lim : s.heap.NoLimit) (hx : s.heap.get? x = some (excO C t0)) (room : A.depth < recursionLimit)
    (fin : ∀ h' tk dx, TlEnd s.heap h' x C dx t0 v → R (.ok (.ret .none)) { s with heap := h', toks := tk }) : codeAny (model prog w) A (.call (.ref f) ⟨[.ref x, v], []⟩) R s := by
  obtain ⟨oc, od, kV, doc, pm, an, cdv, ct, osl, p1, p2, q1, q2, q3, q4, ho, hcd⟩ := T.fn
  obtain ⟨nm, q, N, bs, bm, sn, sub, ab, col, dd, m0, m1, m2, m3, m5, hC, hbm⟩ := T.ob
  have cd : clsIn K C = some { name := nm, bases := bs, mro := .ref C :: bm, ns := N, qualname := q, hasDict := true, slotNames := sn, subclasses := sub, abstract := ab, collection := col, hasDel := false } := by
    unfold clsIn
    rw [hC] <;> rfl
  refine Att.call_fn (binds := [("self", .ref x), ("index", v)]) X lim ho hcd room (BindsTo.of_eq (by first | rfl | with_unfolding_all rfl)) (by first | rfl | decide | with_unfolding_all rfl) (fun s₁ ic => ?_) rfl rfl rfl
  obtain ⟨h₁, tk₁, rfl⟩ := ic.toInCall.same
  have keep := ic.toInCall.keep
  have ns := ic.toInCall.ns
  have X₁ : K.In h₁ := X.keeps keep
  have hx₁ := keep _ _ hx
  show wpAny _ _ (execs _ _) _ _ _
  refine wpAny_execs_cons (plainObj_wpAny_Assign_Attribute (ld_param (v := v) ns (by first | rfl | with_unfolding_all rfl | kernel_rfl) (ld_param (v := .ref x) ns (by first | rfl | with_unfolding_all rfl | kernel_rfl) ?_)))
  refine set_plain X₁ (ox := excO C t0) (od := none) ⟨hx₁, rfl, rfl, trivial⟩ T.f_set (exc_osa X₁ hx₁ cd (show refsVE (.ref C :: bm) = true from hbm) rfl T.f_fld (fun h₃ tk₃ dx k₃ dn dne hx₃ hn₃ => ?_))
  have lt : s.heap.objs.size < h₁.objs.size := ns.lt
  show wpAny _ _ (execs _ _) _ _ _
  exact wpAny_execs_nil (fin h₃ tk₃ dx ⟨fun b o hb e => k₃ b o hb (keep b o e), hx₃, Nat.le_of_lt (Nat.lt_of_lt_of_le lt dn), dne, hn₃⟩)
theorem tl_made (T : TL K mg C f) {v : Value} (X : K.In s.heap) (lim : s.heap.NoLimit) (room : A.depth + 1 < recursionLimit) (fin : ∀ h' tk e d, TlMade s.heap h' e C d v → R (.ok (.ret (.ref e))) { s with heap := h', toks := tk }) :
    codeAny (model prog w) A (.call (.ref C) ⟨[v], []⟩) R s := by
  obtain ⟨nm, q, N, bs, bm, sn, sub, ab, col, dd, m0, m1, m2, m3, m5, hC, hbm⟩ := T.ob
  obtain ⟨hp, g, dr, tk, os⟩ := s
  have keep : ∀ b o, hp.get? b = some o → ((hp.push (kdv_tup [v])).push (excO C hp.objs.size)).get? b = some o := fun b o e => Heap.get?_push_of_some _ (Heap.get?_push_of_some _ e)
  have at_ : ((hp.push (kdv_tup [v])).push (excO C hp.objs.size)).get? (hp.objs.size + 1) = some (excO C hp.objs.size) := by heap_get
  refine call_own F.excBase_ValueError (fun Y => refsVE_contains Y bm hbm) (X _ _ hC) (looks_findIn X T.f_ini) (fun self => bind_fn X self T.tyF) (sz_one v) ?_
  refine tl_init (s := ⟨(hp.push (kdv_tup [v])).push (excO C hp.objs.size), g, dr, tk, os⟩) T (X.keeps keep) (lim.keeps keep) at_ (show A.depth + 1 < recursionLimit from room) fun h' tk' dx ⟨k', hx, dn, dne, hns⟩ => ?_
  have old : ∀ b o, hp.get? b = some o → h'.get? b = some o := fun b o e => k' b o (Nat.ne_of_lt (Nat.lt_succ_of_lt (Heap.lt_size e))) (keep b o e)
  have z : hp.objs.size + 1 + 1 ≤ dx := by
    first
      | (simpa only [Heap.size_push] using dn)
      | exact dn
      | (have q := dn; rw [Heap.size_push, Heap.size_push] at q; exact q)
  refine ⟨rfl, fin h' tk' (hp.objs.size + 1) dx ⟨old, Nat.le_succ _, ⟨_, _, hx, rfl, rfl, rfl, rfl⟩, Nat.le_trans (Nat.le_trans (Nat.le_succ _) (Nat.le_succ _)) z, dne, hns⟩⟩
end
theorem rel_bound {v : V} {v' : Value} (r : RelV v v') (g : Str) : RelO (List.lookup g [(("index" : Str), v)]) (if g = "index" then some v' else none) := by
  by_cases h : g = "index"
  · subst h
    rw [if_pos rfl, show List.lookup ("index" : Str) [(("index" : Str), v)] = some v by simp [List.lookup]]
    exact r
  · rw [if_neg h, show List.lookup g [(("index" : Str), v)] = none by
      have n : (g == ("index" : Str)) = false := by simpa using h
      simp [List.lookup, n]]
    trivial
section
variable {X : Cx} {E : XK} {C f : Addr} {k : Nat} {a e : Expr} {es : List Expr} {Fa : Rho → M Sv} {Fs Fk : Rho → M (List Sv)} {p pos pos2 : Pos}
def mkTl (C : Addr) (ta : TA) : L2.St → Hp → XK → Prop := fun σ H Q => ta σ H fun vs H1 => ∃ v, vs = [v] ∧ ∀ d, H1 d = none → Q (.ref C) (some d) (upd H1 d (.xd [(("index" : Str), v)]))
theorem pmk_tl {ta : TA} (T : TL X.K X.mg C f) (hr : Room k X.A) (ha : PA X [a] ta) (hg : Gl X "BadPushes" := by rfl) (he : starEach (a :: []) X.env = (false, eval a X.env) :: starEach [] X.env := by rfl) (hpl : (backTo pos (starEach [] X.env)).any (·.1) = false := by rfl) :
    PMk X (.Call (.Name "BadPushes" p) [a] [] pos) (mkTl C ta) := by
  intro pins s σ H Q I h
  refine wpAny_Call_Name_kw (ld_glob I hg T.gC (PySem.W.callWith_K (h₀ := X.base) I.ok.mod.kin T.kp (thn (ha.run pos pins s σ H _ I h) fun us s1 ⟨vs, H1, I1, r1, v, ev, q1⟩ => ⟨I1.kIn, ?_⟩) he hpl))
  subst ev
  obtain ⟨u, rfl, rv⟩ := vals1 r1
  show wpAny _ _ (call (.ref C) [u]) _ _ _
  have lim := I1.nolimit
  obtain ⟨hp, g, dr, tk, os⟩ := s1
  refine wpAny_call (tl_made T I1.kIn lim (by have := hr.dp; omega) fun h' tk' e d mk => ?_)
  show MkP X pins σ Q (.ref e) ⟨h', g, dr, tk', os⟩
  obtain ⟨oe, fv, hoe, hc, hd, hdat, h1⟩ := mk.self
  obtain ⟨G, g1, g2⟩ := restrict h' fun b => decide (b ≠ e)
  have gk : ∀ b, b ≠ e → G.get? b = h'.get? b := fun b hb => g1 b (decide_eq_true hb)
  have ge : G.get? e = none := g2 e (by simp)
  have old : ∀ b o, hp.get? b = some o → G.get? b = some o := fun b o q => (gk b (Nat.ne_of_lt (Nat.lt_of_lt_of_le (Heap.lt_size q) mk.new))).trans (mk.rest b o q)
  have ob : ObjOk X.prog X.w (upd H1 d (.xd [(("index" : Str), v)])) G d (.xd [(("index" : Str), v)]) := ⟨_, mk.fld.at (fun o q => (gk d mk.apart).trans q), fun g => rel_bound rv g⟩
  have J : Inv X pins σ (upd H1 d (.xd [(("index" : Str), v)])) ⟨G, g, dr, tk', os⟩ := I1.laid (t' := tk') old mk.late ob
  have none_e : upd H1 d (.xd [(("index" : Str), v)]) e = none := by
    rw [upd_ne (Ne.symm mk.apart)]
    exact I1.hok.fresh mk.new
  refine ⟨e, oe, fv, ⟨G, g, dr, tk', os⟩, _, .ref C, some d, rfl, J, fun b o q => ?_, ge, hoe, ⟨hc, hd⟩, hdat, h1, none_e, rfl, I1.bare, raises_own T.sub T.tyC, q1 d (I1.hok.fresh mk.late)⟩
  have q0 : G.get? b = some o := q
  have hb : b ≠ e := fun z => by
    rw [z, ge] at q0
    cases q0
  exact (gk b hb).symm.trans q0
def gRaise (Fa : Rho → M Sv) (ρ : Rho) : M Out := (Fa ρ).bind fun s => M.thr ⟨"BadPushes", some ("index", s)⟩
theorem s_raise (T : TL X.K X.mg C f) (hc : X.calm = true) (hr : Room k X.A) (tk : Takes X (fun cls d _ H => E cls d H)) (ha : PX X E a Fa) (hg : Gl X "BadPushes" := by rfl) (he : starEach (a :: []) X.env = (false, eval a X.env) :: starEach [] X.env := by rfl) (hpl : (backTo pos (starEach [] X.env)).any (·.1) = false := by rfl) :
    PSX X E (.Raise (some (.Call (.Name "BadPushes" p) [a] [] pos)) none pos2) (gRaise Fa) := ps_weak (ps_raise hc tk (pmk_tl T hr (pa_cons ha pa_nil he) hg he hpl)) fun D σ H ⟨W, ρ, μ, r, h, e, q⟩ => by
  refine tX_bind h e q fun v s W1 H1 μ1 g1 h1 rs e1 q1 => ⟨v, rfl, fun d hd => ?_⟩
  cases e1
  exact q1 W1 _ (.ref C) (some d) ((Grow.refl _ _ _).out hd fun b hb => upd_ne hb) (h1.rel.lay hd) ⟨⟨C, T.nC, rfl⟩, d, v, rfl, upd_same, rs⟩
end
end Err_BadPushes
end Pf

set_option maxHeartbeats 1000000
namespace Pf
open PySem PySem.Spec PyProof.Rows L2
/-! ### a def that is given a caught error -/
/-- the room that a call within a suite has -/
structure RoomS (k : Nat) (A : Around) : Prop where
  dp : A.depth + 3 * k + 5 < recursionLimit
  un : A.units + 16 * k + 200 < cLine
/-- what such a def wants of its argument, and gives -/
structure Gw (P : Program) (w : World) (K : PySem.W.Frag) (mg : Str → Option Value) (base : Heap) (CX : CXT) (k : Nat) (f : Addr) (fd : FuncData) (ps : List Str) (C : Addr) (fl : Str) : Prop where
  grun : ∀ (A : Around) (below : List Env) (s : Shared) (H : Hp) (ar : Args) (Q : VK) (E : XK) (a dd : Addr) (oe : Obj) (v : V), RoomS k A → A.handled = some (.ref a) → L2H.PinOk below H s (a, oe) → Zc (.ref C) (some dd) oe → (∃ vs, oe.data = .fields vs) → Env0 P w K mg base A below s H → BindsTo s fd ar (ps.zip [.ref a]) →
    H dd = some (.xd [(fl, v)]) → (∀ t o p, H t = none → upd H t o p = none → Q (.ref p) (upd (upd H t o) p (.lst [v]))) → codeAny (model P w) A (.call (.ref f) ar) (CR CX below P w H s Q E) s
section
variable {P : Program} {w : World} {K : PySem.W.Frag} {mg : Str → Option Value} {base : Heap} {k : Nat} {f C : Addr} {fd : FuncData} {x qual fl : Str} {st : Stmt} {N ps : List Str}
end
/-! ### isinstance of it -/
def clsV : V → Option Value
  | .ref a => some (.ref a)
  | .ty n => some (.type n)
  | _ => none
theorem cls_rel {c : V} {u cv : Value} (h : clsV c = some cv) (r : RelV c u) : u = cv := by
  cases c <;> first | (cases h; exact r) | cases h
def clsVs : List V → Option (List Value)
  | [] => some []
  | c :: cs => (clsV c).bind fun v => (clsVs cs).map (v :: ·)
theorem clss_rel : ∀ {cs : List V} {us cvs : List Value}, clsVs cs = some cvs → Vals cs us → us = cvs
  | [], _, _, h, .nil => by
    cases h
    rfl
  | c :: cs, _, cvs, h, .cons r rs => by
    have h' : ((clsV c).bind fun v => (clsVs cs).map (v :: ·)) = some cvs := h
    cases hc : clsV c with
    | none =>
      rw [hc] at h'
      cases h'
    | some v =>
      rw [hc] at h'
      cases hs : clsVs cs with
      | none =>
        have h2 : (clsVs cs).map (v :: ·) = some cvs := h'
        rw [hs] at h2
        cases h2
      | some vs =>
        have h2 : (clsVs cs).map (v :: ·) = some cvs := h'
        rw [hs] at h2
        cases h2
        rw [cls_rel hc r, clss_rel hs rs]
def rIsN (K : PySem.W.Frag) (C a : Addr) (cls : Value) (d : Option Addr) : List V → Hp → VK → Prop := fun xs H Q => ∃ (dd : Addr) (fs : List (Str × V)) (t : Addr) (cs : List V) (cvs : List Value) (b : Bool), cls = .ref C ∧ d = some dd ∧ H dd = some (.xd fs) ∧ xs = [.ref a, .ref t] ∧ H t = some (.tup cs) ∧ clsVs cs = some cvs ∧ PySem.W.kitAny K (.ref C) cvs = some b ∧ Q (.bl b) H
section
variable {X : Cx} {C f : Addr} {k : Nat}
/-- the classes that _law_word names -/
structure WordZ (K : PySem.W.Frag) (mg : Str → Option Value) (C f c1 c2 c3 c4 c5 : Addr) : Prop where
  tl : Err_NoTable.TL K mg C f
  g1 : mg "BadWindows" = some (.ref c1)
  g2 : mg "Conflict" = some (.ref c2)
  g3 : mg "Misfit" = some (.ref c3)
  g4 : mg "NoLast" = some (.ref c4)
  g5 : mg "TooLarge" = some (.ref c5)
  gL : mg "LookupError" = none
  k0 : PySem.W.kitOne K (.ref C) (.ref C) = some true
  k1 : PySem.W.kitAny K (.ref C) [.ref c1, .ref c2, .ref c3, .ref c4, .ref c5, .type "LookupError"] = some false
end
/-! ### the call within the suite -/
section
variable {X : Cx} {C f : Addr} {fd : FuncData} {k j i : Nat} {ps : List Str} {fl x n : Str} {a : Addr} {oe : Obj} {cls : Value} {d : Option Addr} {pn : List (Addr × Obj)} {p p2 pos : Pos}
/-! ### try: return ..; except FallError as e: return word(e) -/
end
end Pf

set_option maxHeartbeats 1000000
namespace Pf
open PySem PySem.Spec PyProof.Rows L2
section
variable {l : En} {G : Rho → M Out} {t : S PyData} {C fl : Str}
end
end Pf

set_option maxHeartbeats 1000000
namespace Pf
open PySem PySem.Spec PyProof.Rows L2
section
variable {l l1 : En} {Fa : Rho → M Sv} {ta : S PyData}
end
section
variable {l : En} {σ τ : Type}
end
end Pf

set_option maxHeartbeats 1000000
namespace Pf
open PySem PySem.Spec PyProof.Rows L2
end Pf

set_option maxHeartbeats 1000000
namespace Pf
open PySem PySem.Spec PyProof.Rows L2 PySem.W
section
variable {X : Cx} {E : XK}
/-! ### is, is not between truth values -/
end
end Pf

set_option maxHeartbeats 1000000
namespace Pf
open PySem PySem.Spec PyProof.Rows L2
end Pf

set_option maxHeartbeats 1000000
namespace Pf
open PySem PySem.Spec PyProof.Rows L2 PySem.W
section
variable {X : Cx} {E : XK}
/-! ### t > u of two pairs of ints -/
end
end Pf

set_option maxHeartbeats 1000000
namespace Pf
open PySem PySem.Spec PyProof.Rows L2
end Pf

namespace Pf
open PySem PySem.Spec PyProof.Rows L2
namespace Err_TooLarge
/-! ### an error of the program's own, with one field -/
section
open PySem.W PySem.Calls PySem.HandSPX
def tlArgs (a b : Pos) : Arguments := { vararg := none, kwarg := none, posonlyargs := [], kwonlyargs := [], kw_defaults := [], defaults := [], args := [{ arg := "self", annotation := none, pos := a }, { arg := "bound", annotation := none, pos := b }] }
def tlBody (a b c d : Pos) : List Stmt := [.Assign [.Attribute (.Name "self" a) "bound" b] (.Name "bound" c) d]
def tlScope : Scope := { isGenerator := false, isCoroutine := false, more := [], kind := .function, names := [(PySem.Str.ofString "self", .local), (PySem.Str.ofString "bound", .local)] }
/-- what stands of the class, at C, its __init__ at f -/
structure TL (K : Frag) (mg : Str → Option Value) (C f : Addr) : Prop where
  nC : nsIn K mainGlobals "TooLarge" = some (some (.ref C))
  gC : mg "TooLarge" = some (.ref C)
  ob : ∃ nm q N bs bm sn sub ab col dd m0 m1 m2 m3 m5, K.lookup C = some (excClassObj nm q C N bs bm true sn sub ab col dd m0 m1 m2 m3 m5 "ValueError.__new__") ∧ refsVE bm = true
  f_set : findIn K (.ref C) "__setattr__" = some (some (.builtin "object.__setattr__"))
  f_get : findIn K (.ref C) "__getattribute__" = some (some (.builtin "BaseException.__getattribute__"))
  f_at : findIn K (.ref C) "__getattr__" = some none
  f_fld : findIn K (.ref C) "bound" = some none
  f_ini : findIn K (.ref C) "__init__" = some (some (.ref f))
  f_cls : findIn K (.ref C) "__class__" = some (some (.builtin "object.__class__"))
  s_get : specialIn K (.builtin "object.__class__") "__get__" = some (some (.builtin "getset_descriptor.__get__"))
  tk : takesIn K (.builtin "object.__class__") = some true
  mro : mroIn K C (.type "object") = some true
  tyF : typeIn K (.ref f) = some (.type "function")
  kp : keepIn K (.ref C) = true
  sub : subIn K (.ref C) (.type "BaseException") = some true
  tyC : typeIn K (.ref C) = some (.type "type")
  dct : hasDictIn K C = true
  fn : ∃ (oc : Value) (od : Option Addr) (kV doc pm : Value) (an : Option Addr) (cdv ct : Value) (osl : Array (Option Value)) (p1 p2 q1 q2 q3 q4 : Pos),
    K.lookup f = some ⟨oc, od, .func (fnOf "__init__" "TooLarge.__init__" (tlArgs p1 p2) (tlBody q1 q2 q3 q4) tlScope .none kV doc pm an cdv ct), osl⟩ ∧ codeIn K cdv "TooLarge.__init__" = true
theorem sz_one (v : Value) : [v].length ≤ sizeLine := by
  rw [sizeLine_eq]
  show 1 ≤ 16777216
  decide
theorem ld_param {M : Model} {s : Shared} {nm : Str} {sc : Scope} {L a : Addr} {cdv : Value} {m : Str → Option Value} {y : Str} {pos : Pos} {v : Value} {Q : Value → Shared → Prop} {A : Around} {E : Value → Shared → Prop} (hn : s.heap.Ns L m) (hv : m y = some v) (h : Q v s)
    (hk : sc.kind = .function := by rfl) (hl : (envOfC nm sc L a cdv).kindOf y = some .local := by rfl) (hd : (y == ("__debug__" : Str)) = false := by decide) : wpAny M A (eval (.Name y pos) (envOfC nm sc L a cdv)) Q E s := by
  refine wpAny_Name (wpAny_loadName_local hk hl hn hv h) hd
/-- behind __init__ -/
structure TlEnd (h h' : Heap) (x C dx t1 : Addr) (v : Value) : Prop where
  rest : ∀ b o, b ≠ x → h.get? b = some o → h'.get? b = some o
  self : h'.get? x = some { cls := .ref C, data := .fields #[.ref t1, .none, .none, .none, .bool false, .none], dict := some dx }
  late : h.objs.size ≤ dx
  apart : dx ≠ x
  fld : h'.Ns1 dx (fun y => if y = "bound" then some v else none)
/-- behind the making -/
structure TlMade (h h' : Heap) (e C d : Addr) (v : Value) : Prop where
  rest : ∀ b o, h.get? b = some o → h'.get? b = some o
  new : h.objs.size ≤ e
  self : ∃ oe vs, h'.get? e = some oe ∧ oe.cls = .ref C ∧ oe.dict = some d ∧ oe.data = .fields vs ∧ vs[1]? = some .none
  late : h.objs.size ≤ d
  apart : d ≠ e
  fld : h'.Ns1 d (fun y => if y = "bound" then some v else none)
variable {prog : Program} {w : World} {A : Around} {E : Value → Shared → Prop} {R : Result → Shared → Prop} {s : Shared} {K : Frag} {mg : Str → Option Value} {C f : Addr}
theorem tl_init (T : TL K mg C f) {x t0 : Addr} {v : Value} (X : K.In s.heap) (lim : s.heap.NoLimit) (hx : s.heap.get? x = some (excO C t0)) (room : A.depth < recursionLimit)
    (fin : ∀ h' tk dx, TlEnd s.heap h' x C dx t0 v → R (.ok (.ret .none)) { s with heap := h', toks := tk }) : codeAny (model prog w) A (.call (.ref f) ⟨[.ref x, v], []⟩) R s := by
  obtain ⟨oc, od, kV, doc, pm, an, cdv, ct, osl, p1, p2, q1, q2, q3, q4, ho, hcd⟩ := T.fn
  obtain ⟨nm, q, N, bs, bm, sn, sub, ab, col, dd, m0, m1, m2, m3, m5, hC, hbm⟩ := T.ob
  have cd : clsIn K C = some { name := nm, bases := bs, mro := .ref C :: bm, ns := N, qualname := q, hasDict := true, slotNames := sn, subclasses := sub, abstract := ab, collection := col, hasDel := false } := by
    unfold clsIn
    rw [hC] <;> rfl
  refine Att.call_fn (binds := [("self", .ref x), ("bound", v)]) X lim ho hcd room (BindsTo.of_eq (by first | rfl | with_unfolding_all rfl)) (by first | rfl | decide | with_unfolding_all rfl) (fun s₁ ic => ?_) rfl rfl rfl
  obtain ⟨h₁, tk₁, rfl⟩ := ic.toInCall.same
  have keep := ic.toInCall.keep
  have ns := ic.toInCall.ns
  have X₁ : K.In h₁ := X.keeps keep
  have hx₁ := keep _ _ hx
  show wpAny _ _ (execs _ _) _ _ _
  refine wpAny_execs_cons (plainObj_wpAny_Assign_Attribute (ld_param (v := v) ns (by first | rfl | with_unfolding_all rfl | kernel_rfl) (ld_param (v := .ref x) ns (by first | rfl | with_unfolding_all rfl | kernel_rfl) ?_)))
  refine set_plain X₁ (ox := excO C t0) (od := none) ⟨hx₁, rfl, rfl, trivial⟩ T.f_set (exc_osa X₁ hx₁ cd (show refsVE (.ref C :: bm) = true from hbm) rfl T.f_fld (fun h₃ tk₃ dx k₃ dn dne hx₃ hn₃ => ?_))
  have lt : s.heap.objs.size < h₁.objs.size := ns.lt
  show wpAny _ _ (execs _ _) _ _ _
  exact wpAny_execs_nil (fin h₃ tk₃ dx ⟨fun b o hb e => k₃ b o hb (keep b o e), hx₃, Nat.le_of_lt (Nat.lt_of_lt_of_le lt dn), dne, hn₃⟩)
theorem tl_made (T : TL K mg C f) {v : Value} (X : K.In s.heap) (lim : s.heap.NoLimit) (room : A.depth + 1 < recursionLimit) (fin : ∀ h' tk e d, TlMade s.heap h' e C d v → R (.ok (.ret (.ref e))) { s with heap := h', toks := tk }) :
    codeAny (model prog w) A (.call (.ref C) ⟨[v], []⟩) R s := by
  obtain ⟨nm, q, N, bs, bm, sn, sub, ab, col, dd, m0, m1, m2, m3, m5, hC, hbm⟩ := T.ob
  obtain ⟨hp, g, dr, tk, os⟩ := s
  have keep : ∀ b o, hp.get? b = some o → ((hp.push (kdv_tup [v])).push (excO C hp.objs.size)).get? b = some o := fun b o e => Heap.get?_push_of_some _ (Heap.get?_push_of_some _ e)
  have at_ : ((hp.push (kdv_tup [v])).push (excO C hp.objs.size)).get? (hp.objs.size + 1) = some (excO C hp.objs.size) := by heap_get
  refine call_own F.excBase_ValueError (fun Y => refsVE_contains Y bm hbm) (X _ _ hC) (looks_findIn X T.f_ini) (fun self => bind_fn X self T.tyF) (sz_one v) ?_
  refine tl_init (s := ⟨(hp.push (kdv_tup [v])).push (excO C hp.objs.size), g, dr, tk, os⟩) T (X.keeps keep) (lim.keeps keep) at_ (show A.depth + 1 < recursionLimit from room) fun h' tk' dx ⟨k', hx, dn, dne, hns⟩ => ?_
  have old : ∀ b o, hp.get? b = some o → h'.get? b = some o := fun b o e => k' b o (Nat.ne_of_lt (Nat.lt_succ_of_lt (Heap.lt_size e))) (keep b o e)
  have z : hp.objs.size + 1 + 1 ≤ dx := by
    first
      | (simpa only [Heap.size_push] using dn)
      | exact dn
      | (have q := dn; rw [Heap.size_push, Heap.size_push] at q; exact q)
  refine ⟨rfl, fin h' tk' (hp.objs.size + 1) dx ⟨old, Nat.le_succ _, ⟨_, _, hx, rfl, rfl, rfl, rfl⟩, Nat.le_trans (Nat.le_trans (Nat.le_succ _) (Nat.le_succ _)) z, dne, hns⟩⟩
end
theorem rel_bound {v : V} {v' : Value} (r : RelV v v') (g : Str) : RelO (List.lookup g [(("bound" : Str), v)]) (if g = "bound" then some v' else none) := by
  by_cases h : g = "bound"
  · subst h
    rw [if_pos rfl, show List.lookup ("bound" : Str) [(("bound" : Str), v)] = some v by simp [List.lookup]]
    exact r
  · rw [if_neg h, show List.lookup g [(("bound" : Str), v)] = none by
      have n : (g == ("bound" : Str)) = false := by simpa using h
      simp [List.lookup, n]]
    trivial
section
variable {X : Cx} {E : XK} {C f : Addr} {k : Nat} {a e : Expr} {es : List Expr} {Fa : Rho → M Sv} {Fs Fk : Rho → M (List Sv)} {p pos pos2 : Pos}
def mkTl (C : Addr) (ta : TA) : L2.St → Hp → XK → Prop := fun σ H Q => ta σ H fun vs H1 => ∃ v, vs = [v] ∧ ∀ d, H1 d = none → Q (.ref C) (some d) (upd H1 d (.xd [(("bound" : Str), v)]))
theorem pmk_tl {ta : TA} (T : TL X.K X.mg C f) (hr : Room k X.A) (ha : PA X [a] ta) (hg : Gl X "TooLarge" := by rfl) (he : starEach (a :: []) X.env = (false, eval a X.env) :: starEach [] X.env := by rfl) (hpl : (backTo pos (starEach [] X.env)).any (·.1) = false := by rfl) :
    PMk X (.Call (.Name "TooLarge" p) [a] [] pos) (mkTl C ta) := by
  intro pins s σ H Q I h
  refine wpAny_Call_Name_kw (ld_glob I hg T.gC (PySem.W.callWith_K (h₀ := X.base) I.ok.mod.kin T.kp (thn (ha.run pos pins s σ H _ I h) fun us s1 ⟨vs, H1, I1, r1, v, ev, q1⟩ => ⟨I1.kIn, ?_⟩) he hpl))
  subst ev
  obtain ⟨u, rfl, rv⟩ := vals1 r1
  show wpAny _ _ (call (.ref C) [u]) _ _ _
  have lim := I1.nolimit
  obtain ⟨hp, g, dr, tk, os⟩ := s1
  refine wpAny_call (tl_made T I1.kIn lim (by have := hr.dp; omega) fun h' tk' e d mk => ?_)
  show MkP X pins σ Q (.ref e) ⟨h', g, dr, tk', os⟩
  obtain ⟨oe, fv, hoe, hc, hd, hdat, h1⟩ := mk.self
  obtain ⟨G, g1, g2⟩ := restrict h' fun b => decide (b ≠ e)
  have gk : ∀ b, b ≠ e → G.get? b = h'.get? b := fun b hb => g1 b (decide_eq_true hb)
  have ge : G.get? e = none := g2 e (by simp)
  have old : ∀ b o, hp.get? b = some o → G.get? b = some o := fun b o q => (gk b (Nat.ne_of_lt (Nat.lt_of_lt_of_le (Heap.lt_size q) mk.new))).trans (mk.rest b o q)
  have ob : ObjOk X.prog X.w (upd H1 d (.xd [(("bound" : Str), v)])) G d (.xd [(("bound" : Str), v)]) := ⟨_, mk.fld.at (fun o q => (gk d mk.apart).trans q), fun g => rel_bound rv g⟩
  have J : Inv X pins σ (upd H1 d (.xd [(("bound" : Str), v)])) ⟨G, g, dr, tk', os⟩ := I1.laid (t' := tk') old mk.late ob
  have none_e : upd H1 d (.xd [(("bound" : Str), v)]) e = none := by
    rw [upd_ne (Ne.symm mk.apart)]
    exact I1.hok.fresh mk.new
  refine ⟨e, oe, fv, ⟨G, g, dr, tk', os⟩, _, .ref C, some d, rfl, J, fun b o q => ?_, ge, hoe, ⟨hc, hd⟩, hdat, h1, none_e, rfl, I1.bare, raises_own T.sub T.tyC, q1 d (I1.hok.fresh mk.late)⟩
  have q0 : G.get? b = some o := q
  have hb : b ≠ e := fun z => by
    rw [z, ge] at q0
    cases q0
  exact (gk b hb).symm.trans q0
def gRaise (Fa : Rho → M Sv) (ρ : Rho) : M Out := (Fa ρ).bind fun s => M.thr ⟨"TooLarge", some ("bound", s)⟩
theorem s_raise (T : TL X.K X.mg C f) (hc : X.calm = true) (hr : Room k X.A) (tk : Takes X (fun cls d _ H => E cls d H)) (ha : PX X E a Fa) (hg : Gl X "TooLarge" := by rfl) (he : starEach (a :: []) X.env = (false, eval a X.env) :: starEach [] X.env := by rfl) (hpl : (backTo pos (starEach [] X.env)).any (·.1) = false := by rfl) :
    PSX X E (.Raise (some (.Call (.Name "TooLarge" p) [a] [] pos)) none pos2) (gRaise Fa) := ps_weak (ps_raise hc tk (pmk_tl T hr (pa_cons ha pa_nil he) hg he hpl)) fun D σ H ⟨W, ρ, μ, r, h, e, q⟩ => by
  refine tX_bind h e q fun v s W1 H1 μ1 g1 h1 rs e1 q1 => ⟨v, rfl, fun d hd => ?_⟩
  cases e1
  exact q1 W1 _ (.ref C) (some d) ((Grow.refl _ _ _).out hd fun b hb => upd_ne hb) (h1.rel.lay hd) ⟨⟨C, T.nC, rfl⟩, d, v, rfl, upd_same, rs⟩
end
end Err_TooLarge
namespace Err_Conflict
/-! ### an error of the program's own, with one field -/
section
open PySem.W PySem.Calls PySem.HandSPX
def tlArgs (a b : Pos) : Arguments := { vararg := none, kwarg := none, posonlyargs := [], kwonlyargs := [], kw_defaults := [], defaults := [], args := [{ arg := "self", annotation := none, pos := a }, { arg := "pair", annotation := none, pos := b }] }
def tlBody (a b c d : Pos) : List Stmt := [.Assign [.Attribute (.Name "self" a) "pair" b] (.Name "pair" c) d]
def tlScope : Scope := { isGenerator := false, isCoroutine := false, more := [], kind := .function, names := [(PySem.Str.ofString "self", .local), (PySem.Str.ofString "pair", .local)] }
/-- what stands of the class, at C, its __init__ at f -/
structure TL (K : Frag) (mg : Str → Option Value) (C f : Addr) : Prop where
  nC : nsIn K mainGlobals "Conflict" = some (some (.ref C))
  gC : mg "Conflict" = some (.ref C)
  ob : ∃ nm q N bs bm sn sub ab col dd m0 m1 m2 m3 m5, K.lookup C = some (excClassObj nm q C N bs bm true sn sub ab col dd m0 m1 m2 m3 m5 "ValueError.__new__") ∧ refsVE bm = true
  f_set : findIn K (.ref C) "__setattr__" = some (some (.builtin "object.__setattr__"))
  f_get : findIn K (.ref C) "__getattribute__" = some (some (.builtin "BaseException.__getattribute__"))
  f_at : findIn K (.ref C) "__getattr__" = some none
  f_fld : findIn K (.ref C) "pair" = some none
  f_ini : findIn K (.ref C) "__init__" = some (some (.ref f))
  f_cls : findIn K (.ref C) "__class__" = some (some (.builtin "object.__class__"))
  s_get : specialIn K (.builtin "object.__class__") "__get__" = some (some (.builtin "getset_descriptor.__get__"))
  tk : takesIn K (.builtin "object.__class__") = some true
  mro : mroIn K C (.type "object") = some true
  tyF : typeIn K (.ref f) = some (.type "function")
  kp : keepIn K (.ref C) = true
  sub : subIn K (.ref C) (.type "BaseException") = some true
  tyC : typeIn K (.ref C) = some (.type "type")
  dct : hasDictIn K C = true
  fn : ∃ (oc : Value) (od : Option Addr) (kV doc pm : Value) (an : Option Addr) (cdv ct : Value) (osl : Array (Option Value)) (p1 p2 q1 q2 q3 q4 : Pos),
    K.lookup f = some ⟨oc, od, .func (fnOf "__init__" "Conflict.__init__" (tlArgs p1 p2) (tlBody q1 q2 q3 q4) tlScope .none kV doc pm an cdv ct), osl⟩ ∧ codeIn K cdv "Conflict.__init__" = true
theorem sz_one (v : Value) : [v].length ≤ sizeLine := by
  rw [sizeLine_eq]
  show 1 ≤ 16777216
  decide
theorem ld_param {M : Model} {s : Shared} {nm : Str} {sc : Scope} {L a : Addr} {cdv : Value} {m : Str → Option Value} {y : Str} {pos : Pos} {v : Value} {Q : Value → Shared → Prop} {A : Around} {E : Value → Shared → Prop} (hn : s.heap.Ns L m) (hv : m y = some v) (h : Q v s)
    (hk : sc.kind = .function := by rfl) (hl : (envOfC nm sc L a cdv).kindOf y = some .local := by rfl) (hd : (y == ("__debug__" : Str)) = false := by decide) : wpAny M A (eval (.Name y pos) (envOfC nm sc L a cdv)) Q E s := by
  refine wpAny_Name (wpAny_loadName_local hk hl hn hv h) hd
/-- behind __init__ -/
structure TlEnd (h h' : Heap) (x C dx t1 : Addr) (v : Value) : Prop where
  rest : ∀ b o, b ≠ x → h.get? b = some o → h'.get? b = some o
  self : h'.get? x = some { cls := .ref C, data := .fields #[.ref t1, .none, .none, .none, .bool false, .none], dict := some dx }
  late : h.objs.size ≤ dx
  apart : dx ≠ x
  fld : h'.Ns1 dx (fun y => if y = "pair" then some v else none)
/-- behind the making -/
structure TlMade (h h' : Heap) (e C d : Addr) (v : Value) : Prop where
  rest : ∀ b o, h.get? b = some o → h'.get? b = some o
  new : h.objs.size ≤ e
  self : ∃ oe vs, h'.get? e = some oe ∧ oe.cls = .ref C ∧ oe.dict = some d ∧ oe.data = .fields vs ∧ vs[1]? = some .none
  late : h.objs.size ≤ d
  apart : d ≠ e
  fld : h'.Ns1 d (fun y => if y = "pair" then some v else none)
variable {prog : Program} {w : World} {A : Around} {E : Value → Shared → Prop} {R : Result → Shared → Prop} {s : Shared} {K : Frag} {mg : Str → Option Value} {C f : Addr}
theorem tl_init (T : TL K mg C f) {x t0 : Addr} {v : Value} (X : K.In s.heap) (lim : s.heap.NoLimit) (hx : s.heap.get? x = some (excO C t0)) (room : A.depth < recursionLimit)
    (fin : ∀ h' tk dx, TlEnd s.heap h' x C dx t0 v → R (.ok (.ret .none)) { s with heap := h', toks := tk }) : codeAny (model prog w) A (.call (.ref f) ⟨[.ref x, v], []⟩) R s := by
  obtain ⟨oc, od, kV, doc, pm, an, cdv, ct, osl, p1, p2, q1, q2, q3, q4, ho, hcd⟩ := T.fn
  obtain ⟨nm, q, N, bs, bm, sn, sub, ab, col, dd, m0, m1, m2, m3, m5, hC, hbm⟩ := T.ob
  have cd : clsIn K C = some { name := nm, bases := bs, mro := .ref C :: bm, ns := N, qualname := q, hasDict := true, slotNames := sn, subclasses := sub, abstract := ab, collection := col, hasDel := false } := by
    unfold clsIn
    rw [hC] <;> rfl
  refine Att.call_fn (binds := [("self", .ref x), ("pair", v)]) X lim ho hcd room (BindsTo.of_eq (by first | rfl | with_unfolding_all rfl)) (by first | rfl | decide | with_unfolding_all rfl) (fun s₁ ic => ?_) rfl rfl rfl
  obtain ⟨h₁, tk₁, rfl⟩ := ic.toInCall.same
  have keep := ic.toInCall.keep
  have ns := ic.toInCall.ns
  have X₁ : K.In h₁ := X.keeps keep
  have hx₁ := keep _ _ hx
  show wpAny _ _ (execs _ _) _ _ _
  refine wpAny_execs_cons (plainObj_wpAny_Assign_Attribute (ld_param (v := v) ns (by first | rfl | with_unfolding_all rfl | kernel_rfl) (ld_param (v := .ref x) ns (by first | rfl | with_unfolding_all rfl | kernel_rfl) ?_)))
  refine set_plain X₁ (ox := excO C t0) (od := none) ⟨hx₁, rfl, rfl, trivial⟩ T.f_set (exc_osa X₁ hx₁ cd (show refsVE (.ref C :: bm) = true from hbm) rfl T.f_fld (fun h₃ tk₃ dx k₃ dn dne hx₃ hn₃ => ?_))
  have lt : s.heap.objs.size < h₁.objs.size := ns.lt
  show wpAny _ _ (execs _ _) _ _ _
  exact wpAny_execs_nil (fin h₃ tk₃ dx ⟨fun b o hb e => k₃ b o hb (keep b o e), hx₃, Nat.le_of_lt (Nat.lt_of_lt_of_le lt dn), dne, hn₃⟩)
theorem tl_made (T : TL K mg C f) {v : Value} (X : K.In s.heap) (lim : s.heap.NoLimit) (room : A.depth + 1 < recursionLimit) (fin : ∀ h' tk e d, TlMade s.heap h' e C d v → R (.ok (.ret (.ref e))) { s with heap := h', toks := tk }) :
    codeAny (model prog w) A (.call (.ref C) ⟨[v], []⟩) R s := by
  obtain ⟨nm, q, N, bs, bm, sn, sub, ab, col, dd, m0, m1, m2, m3, m5, hC, hbm⟩ := T.ob
  obtain ⟨hp, g, dr, tk, os⟩ := s
  have keep : ∀ b o, hp.get? b = some o → ((hp.push (kdv_tup [v])).push (excO C hp.objs.size)).get? b = some o := fun b o e => Heap.get?_push_of_some _ (Heap.get?_push_of_some _ e)
  have at_ : ((hp.push (kdv_tup [v])).push (excO C hp.objs.size)).get? (hp.objs.size + 1) = some (excO C hp.objs.size) := by heap_get
  refine call_own F.excBase_ValueError (fun Y => refsVE_contains Y bm hbm) (X _ _ hC) (looks_findIn X T.f_ini) (fun self => bind_fn X self T.tyF) (sz_one v) ?_
  refine tl_init (s := ⟨(hp.push (kdv_tup [v])).push (excO C hp.objs.size), g, dr, tk, os⟩) T (X.keeps keep) (lim.keeps keep) at_ (show A.depth + 1 < recursionLimit from room) fun h' tk' dx ⟨k', hx, dn, dne, hns⟩ => ?_
  have old : ∀ b o, hp.get? b = some o → h'.get? b = some o := fun b o e => k' b o (Nat.ne_of_lt (Nat.lt_succ_of_lt (Heap.lt_size e))) (keep b o e)
  have z : hp.objs.size + 1 + 1 ≤ dx := by
    first
      | (simpa only [Heap.size_push] using dn)
      | exact dn
      | (have q := dn; rw [Heap.size_push, Heap.size_push] at q; exact q)
  refine ⟨rfl, fin h' tk' (hp.objs.size + 1) dx ⟨old, Nat.le_succ _, ⟨_, _, hx, rfl, rfl, rfl, rfl⟩, Nat.le_trans (Nat.le_trans (Nat.le_succ _) (Nat.le_succ _)) z, dne, hns⟩⟩
end
theorem rel_bound {v : V} {v' : Value} (r : RelV v v') (g : Str) : RelO (List.lookup g [(("pair" : Str), v)]) (if g = "pair" then some v' else none) := by
  by_cases h : g = "pair"
  · subst h
    rw [if_pos rfl, show List.lookup ("pair" : Str) [(("pair" : Str), v)] = some v by simp [List.lookup]]
    exact r
  · rw [if_neg h, show List.lookup g [(("pair" : Str), v)] = none by
      have n : (g == ("pair" : Str)) = false := by simpa using h
      simp [List.lookup, n]]
    trivial
section
variable {X : Cx} {E : XK} {C f : Addr} {k : Nat} {a e : Expr} {es : List Expr} {Fa : Rho → M Sv} {Fs Fk : Rho → M (List Sv)} {p pos pos2 : Pos}
def mkTl (C : Addr) (ta : TA) : L2.St → Hp → XK → Prop := fun σ H Q => ta σ H fun vs H1 => ∃ v, vs = [v] ∧ ∀ d, H1 d = none → Q (.ref C) (some d) (upd H1 d (.xd [(("pair" : Str), v)]))
theorem pmk_tl {ta : TA} (T : TL X.K X.mg C f) (hr : Room k X.A) (ha : PA X [a] ta) (hg : Gl X "Conflict" := by rfl) (he : starEach (a :: []) X.env = (false, eval a X.env) :: starEach [] X.env := by rfl) (hpl : (backTo pos (starEach [] X.env)).any (·.1) = false := by rfl) :
    PMk X (.Call (.Name "Conflict" p) [a] [] pos) (mkTl C ta) := by
  intro pins s σ H Q I h
  refine wpAny_Call_Name_kw (ld_glob I hg T.gC (PySem.W.callWith_K (h₀ := X.base) I.ok.mod.kin T.kp (thn (ha.run pos pins s σ H _ I h) fun us s1 ⟨vs, H1, I1, r1, v, ev, q1⟩ => ⟨I1.kIn, ?_⟩) he hpl))
  subst ev
  obtain ⟨u, rfl, rv⟩ := vals1 r1
  show wpAny _ _ (call (.ref C) [u]) _ _ _
  have lim := I1.nolimit
  obtain ⟨hp, g, dr, tk, os⟩ := s1
  refine wpAny_call (tl_made T I1.kIn lim (by have := hr.dp; omega) fun h' tk' e d mk => ?_)
  show MkP X pins σ Q (.ref e) ⟨h', g, dr, tk', os⟩
  obtain ⟨oe, fv, hoe, hc, hd, hdat, h1⟩ := mk.self
  obtain ⟨G, g1, g2⟩ := restrict h' fun b => decide (b ≠ e)
  have gk : ∀ b, b ≠ e → G.get? b = h'.get? b := fun b hb => g1 b (decide_eq_true hb)
  have ge : G.get? e = none := g2 e (by simp)
  have old : ∀ b o, hp.get? b = some o → G.get? b = some o := fun b o q => (gk b (Nat.ne_of_lt (Nat.lt_of_lt_of_le (Heap.lt_size q) mk.new))).trans (mk.rest b o q)
  have ob : ObjOk X.prog X.w (upd H1 d (.xd [(("pair" : Str), v)])) G d (.xd [(("pair" : Str), v)]) := ⟨_, mk.fld.at (fun o q => (gk d mk.apart).trans q), fun g => rel_bound rv g⟩
  have J : Inv X pins σ (upd H1 d (.xd [(("pair" : Str), v)])) ⟨G, g, dr, tk', os⟩ := I1.laid (t' := tk') old mk.late ob
  have none_e : upd H1 d (.xd [(("pair" : Str), v)]) e = none := by
    rw [upd_ne (Ne.symm mk.apart)]
    exact I1.hok.fresh mk.new
  refine ⟨e, oe, fv, ⟨G, g, dr, tk', os⟩, _, .ref C, some d, rfl, J, fun b o q => ?_, ge, hoe, ⟨hc, hd⟩, hdat, h1, none_e, rfl, I1.bare, raises_own T.sub T.tyC, q1 d (I1.hok.fresh mk.late)⟩
  have q0 : G.get? b = some o := q
  have hb : b ≠ e := fun z => by
    rw [z, ge] at q0
    cases q0
  exact (gk b hb).symm.trans q0
def gRaise (Fa : Rho → M Sv) (ρ : Rho) : M Out := (Fa ρ).bind fun s => M.thr ⟨"Conflict", some ("pair", s)⟩
theorem s_raise (T : TL X.K X.mg C f) (hc : X.calm = true) (hr : Room k X.A) (tk : Takes X (fun cls d _ H => E cls d H)) (ha : PX X E a Fa) (hg : Gl X "Conflict" := by rfl) (he : starEach (a :: []) X.env = (false, eval a X.env) :: starEach [] X.env := by rfl) (hpl : (backTo pos (starEach [] X.env)).any (·.1) = false := by rfl) :
    PSX X E (.Raise (some (.Call (.Name "Conflict" p) [a] [] pos)) none pos2) (gRaise Fa) := ps_weak (ps_raise hc tk (pmk_tl T hr (pa_cons ha pa_nil he) hg he hpl)) fun D σ H ⟨W, ρ, μ, r, h, e, q⟩ => by
  refine tX_bind h e q fun v s W1 H1 μ1 g1 h1 rs e1 q1 => ⟨v, rfl, fun d hd => ?_⟩
  cases e1
  exact q1 W1 _ (.ref C) (some d) ((Grow.refl _ _ _).out hd fun b hb => upd_ne hb) (h1.rel.lay hd) ⟨⟨C, T.nC, rfl⟩, d, v, rfl, upd_same, rs⟩
end
end Err_Conflict
namespace Err_NoLast
/-! ### an error of the program's own, with one field -/
section
open PySem.W PySem.Calls PySem.HandSPX
def tlArgs (a b : Pos) : Arguments := { vararg := none, kwarg := none, posonlyargs := [], kwonlyargs := [], kw_defaults := [], defaults := [], args := [{ arg := "self", annotation := none, pos := a }, { arg := "mark", annotation := none, pos := b }] }
def tlBody (a b c d : Pos) : List Stmt := [.Assign [.Attribute (.Name "self" a) "mark" b] (.Name "mark" c) d]
def tlScope : Scope := { isGenerator := false, isCoroutine := false, more := [], kind := .function, names := [(PySem.Str.ofString "self", .local), (PySem.Str.ofString "mark", .local)] }
/-- what stands of the class, at C, its __init__ at f -/
structure TL (K : Frag) (mg : Str → Option Value) (C f : Addr) : Prop where
  nC : nsIn K mainGlobals "NoLast" = some (some (.ref C))
  gC : mg "NoLast" = some (.ref C)
  ob : ∃ nm q N bs bm sn sub ab col dd m0 m1 m2 m3 m5, K.lookup C = some (excClassObj nm q C N bs bm true sn sub ab col dd m0 m1 m2 m3 m5 "ValueError.__new__") ∧ refsVE bm = true
  f_set : findIn K (.ref C) "__setattr__" = some (some (.builtin "object.__setattr__"))
  f_get : findIn K (.ref C) "__getattribute__" = some (some (.builtin "BaseException.__getattribute__"))
  f_at : findIn K (.ref C) "__getattr__" = some none
  f_fld : findIn K (.ref C) "mark" = some none
  f_ini : findIn K (.ref C) "__init__" = some (some (.ref f))
  f_cls : findIn K (.ref C) "__class__" = some (some (.builtin "object.__class__"))
  s_get : specialIn K (.builtin "object.__class__") "__get__" = some (some (.builtin "getset_descriptor.__get__"))
  tk : takesIn K (.builtin "object.__class__") = some true
  mro : mroIn K C (.type "object") = some true
  tyF : typeIn K (.ref f) = some (.type "function")
  kp : keepIn K (.ref C) = true
  sub : subIn K (.ref C) (.type "BaseException") = some true
  tyC : typeIn K (.ref C) = some (.type "type")
  dct : hasDictIn K C = true
  fn : ∃ (oc : Value) (od : Option Addr) (kV doc pm : Value) (an : Option Addr) (cdv ct : Value) (osl : Array (Option Value)) (p1 p2 q1 q2 q3 q4 : Pos),
    K.lookup f = some ⟨oc, od, .func (fnOf "__init__" "NoLast.__init__" (tlArgs p1 p2) (tlBody q1 q2 q3 q4) tlScope .none kV doc pm an cdv ct), osl⟩ ∧ codeIn K cdv "NoLast.__init__" = true
theorem sz_one (v : Value) : [v].length ≤ sizeLine := by
  rw [sizeLine_eq]
  show 1 ≤ 16777216
  decide
theorem ld_param {M : Model} {s : Shared} {nm : Str} {sc : Scope} {L a : Addr} {cdv : Value} {m : Str → Option Value} {y : Str} {pos : Pos} {v : Value} {Q : Value → Shared → Prop} {A : Around} {E : Value → Shared → Prop} (hn : s.heap.Ns L m) (hv : m y = some v) (h : Q v s)
    (hk : sc.kind = .function := by rfl) (hl : (envOfC nm sc L a cdv).kindOf y = some .local := by rfl) (hd : (y == ("__debug__" : Str)) = false := by decide) : wpAny M A (eval (.Name y pos) (envOfC nm sc L a cdv)) Q E s := by
  refine wpAny_Name (wpAny_loadName_local hk hl hn hv h) hd
/-- behind __init__ -/
structure TlEnd (h h' : Heap) (x C dx t1 : Addr) (v : Value) : Prop where
  rest : ∀ b o, b ≠ x → h.get? b = some o → h'.get? b = some o
  self : h'.get? x = some { cls := .ref C, data := .fields #[.ref t1, .none, .none, .none, .bool false, .none], dict := some dx }
  late : h.objs.size ≤ dx
  apart : dx ≠ x
  fld : h'.Ns1 dx (fun y => if y = "mark" then some v else none)
/-- behind the making -/
structure TlMade (h h' : Heap) (e C d : Addr) (v : Value) : Prop where
  rest : ∀ b o, h.get? b = some o → h'.get? b = some o
  new : h.objs.size ≤ e
  self : ∃ oe vs, h'.get? e = some oe ∧ oe.cls = .ref C ∧ oe.dict = some d ∧ oe.data = .fields vs ∧ vs[1]? = some .none
  late : h.objs.size ≤ d
  apart : d ≠ e
  fld : h'.Ns1 d (fun y => if y = "mark" then some v else none)
variable {prog : Program} {w : World} {A : Around} {E : Value → Shared → Prop} {R : Result → Shared → Prop} {s : Shared} {K : Frag} {mg : Str → Option Value} {C f : Addr}
theorem tl_init (T : TL K mg C f) {x t0 : Addr} {v : Value} (X : K.In s.heap) (lim : s.heap.NoLimit) (hx : s.heap.get? x = some (excO C t0)) (room : A.depth < recursionLimit)
    (fin : ∀ h' tk dx, TlEnd s.heap h' x C dx t0 v → R (.ok (.ret .none)) { s with heap := h', toks := tk }) : codeAny (model prog w) A (.call (.ref f) ⟨[.ref x, v], []⟩) R s := by
  obtain ⟨oc, od, kV, doc, pm, an, cdv, ct, osl, p1, p2, q1, q2, q3, q4, ho, hcd⟩ := T.fn
  obtain ⟨nm, q, N, bs, bm, sn, sub, ab, col, dd, m0, m1, m2, m3, m5, hC, hbm⟩ := T.ob
  have cd : clsIn K C = some { name := nm, bases := bs, mro := .ref C :: bm, ns := N, qualname := q, hasDict := true, slotNames := sn, subclasses := sub, abstract := ab, collection := col, hasDel := false } := by
    unfold clsIn
    rw [hC] <;> rfl
  refine Att.call_fn (binds := [("self", .ref x), ("mark", v)]) X lim ho hcd room (BindsTo.of_eq (by first | rfl | with_unfolding_all rfl)) (by first | rfl | decide | with_unfolding_all rfl) (fun s₁ ic => ?_) rfl rfl rfl
  obtain ⟨h₁, tk₁, rfl⟩ := ic.toInCall.same
  have keep := ic.toInCall.keep
  have ns := ic.toInCall.ns
  have X₁ : K.In h₁ := X.keeps keep
  have hx₁ := keep _ _ hx
  show wpAny _ _ (execs _ _) _ _ _
  refine wpAny_execs_cons (plainObj_wpAny_Assign_Attribute (ld_param (v := v) ns (by first | rfl | with_unfolding_all rfl | kernel_rfl) (ld_param (v := .ref x) ns (by first | rfl | with_unfolding_all rfl | kernel_rfl) ?_)))
  refine set_plain X₁ (ox := excO C t0) (od := none) ⟨hx₁, rfl, rfl, trivial⟩ T.f_set (exc_osa X₁ hx₁ cd (show refsVE (.ref C :: bm) = true from hbm) rfl T.f_fld (fun h₃ tk₃ dx k₃ dn dne hx₃ hn₃ => ?_))
  have lt : s.heap.objs.size < h₁.objs.size := ns.lt
  show wpAny _ _ (execs _ _) _ _ _
  exact wpAny_execs_nil (fin h₃ tk₃ dx ⟨fun b o hb e => k₃ b o hb (keep b o e), hx₃, Nat.le_of_lt (Nat.lt_of_lt_of_le lt dn), dne, hn₃⟩)
theorem tl_made (T : TL K mg C f) {v : Value} (X : K.In s.heap) (lim : s.heap.NoLimit) (room : A.depth + 1 < recursionLimit) (fin : ∀ h' tk e d, TlMade s.heap h' e C d v → R (.ok (.ret (.ref e))) { s with heap := h', toks := tk }) :
    codeAny (model prog w) A (.call (.ref C) ⟨[v], []⟩) R s := by
  obtain ⟨nm, q, N, bs, bm, sn, sub, ab, col, dd, m0, m1, m2, m3, m5, hC, hbm⟩ := T.ob
  obtain ⟨hp, g, dr, tk, os⟩ := s
  have keep : ∀ b o, hp.get? b = some o → ((hp.push (kdv_tup [v])).push (excO C hp.objs.size)).get? b = some o := fun b o e => Heap.get?_push_of_some _ (Heap.get?_push_of_some _ e)
  have at_ : ((hp.push (kdv_tup [v])).push (excO C hp.objs.size)).get? (hp.objs.size + 1) = some (excO C hp.objs.size) := by heap_get
  refine call_own F.excBase_ValueError (fun Y => refsVE_contains Y bm hbm) (X _ _ hC) (looks_findIn X T.f_ini) (fun self => bind_fn X self T.tyF) (sz_one v) ?_
  refine tl_init (s := ⟨(hp.push (kdv_tup [v])).push (excO C hp.objs.size), g, dr, tk, os⟩) T (X.keeps keep) (lim.keeps keep) at_ (show A.depth + 1 < recursionLimit from room) fun h' tk' dx ⟨k', hx, dn, dne, hns⟩ => ?_
  have old : ∀ b o, hp.get? b = some o → h'.get? b = some o := fun b o e => k' b o (Nat.ne_of_lt (Nat.lt_succ_of_lt (Heap.lt_size e))) (keep b o e)
  have z : hp.objs.size + 1 + 1 ≤ dx := by
    first
      | (simpa only [Heap.size_push] using dn)
      | exact dn
      | (have q := dn; rw [Heap.size_push, Heap.size_push] at q; exact q)
  refine ⟨rfl, fin h' tk' (hp.objs.size + 1) dx ⟨old, Nat.le_succ _, ⟨_, _, hx, rfl, rfl, rfl, rfl⟩, Nat.le_trans (Nat.le_trans (Nat.le_succ _) (Nat.le_succ _)) z, dne, hns⟩⟩
end
theorem rel_bound {v : V} {v' : Value} (r : RelV v v') (g : Str) : RelO (List.lookup g [(("mark" : Str), v)]) (if g = "mark" then some v' else none) := by
  by_cases h : g = "mark"
  · subst h
    rw [if_pos rfl, show List.lookup ("mark" : Str) [(("mark" : Str), v)] = some v by simp [List.lookup]]
    exact r
  · rw [if_neg h, show List.lookup g [(("mark" : Str), v)] = none by
      have n : (g == ("mark" : Str)) = false := by simpa using h
      simp [List.lookup, n]]
    trivial
section
variable {X : Cx} {E : XK} {C f : Addr} {k : Nat} {a e : Expr} {es : List Expr} {Fa : Rho → M Sv} {Fs Fk : Rho → M (List Sv)} {p pos pos2 : Pos}
def mkTl (C : Addr) (ta : TA) : L2.St → Hp → XK → Prop := fun σ H Q => ta σ H fun vs H1 => ∃ v, vs = [v] ∧ ∀ d, H1 d = none → Q (.ref C) (some d) (upd H1 d (.xd [(("mark" : Str), v)]))
theorem pmk_tl {ta : TA} (T : TL X.K X.mg C f) (hr : Room k X.A) (ha : PA X [a] ta) (hg : Gl X "NoLast" := by rfl) (he : starEach (a :: []) X.env = (false, eval a X.env) :: starEach [] X.env := by rfl) (hpl : (backTo pos (starEach [] X.env)).any (·.1) = false := by rfl) :
    PMk X (.Call (.Name "NoLast" p) [a] [] pos) (mkTl C ta) := by
  intro pins s σ H Q I h
  refine wpAny_Call_Name_kw (ld_glob I hg T.gC (PySem.W.callWith_K (h₀ := X.base) I.ok.mod.kin T.kp (thn (ha.run pos pins s σ H _ I h) fun us s1 ⟨vs, H1, I1, r1, v, ev, q1⟩ => ⟨I1.kIn, ?_⟩) he hpl))
  subst ev
  obtain ⟨u, rfl, rv⟩ := vals1 r1
  show wpAny _ _ (call (.ref C) [u]) _ _ _
  have lim := I1.nolimit
  obtain ⟨hp, g, dr, tk, os⟩ := s1
  refine wpAny_call (tl_made T I1.kIn lim (by have := hr.dp; omega) fun h' tk' e d mk => ?_)
  show MkP X pins σ Q (.ref e) ⟨h', g, dr, tk', os⟩
  obtain ⟨oe, fv, hoe, hc, hd, hdat, h1⟩ := mk.self
  obtain ⟨G, g1, g2⟩ := restrict h' fun b => decide (b ≠ e)
  have gk : ∀ b, b ≠ e → G.get? b = h'.get? b := fun b hb => g1 b (decide_eq_true hb)
  have ge : G.get? e = none := g2 e (by simp)
  have old : ∀ b o, hp.get? b = some o → G.get? b = some o := fun b o q => (gk b (Nat.ne_of_lt (Nat.lt_of_lt_of_le (Heap.lt_size q) mk.new))).trans (mk.rest b o q)
  have ob : ObjOk X.prog X.w (upd H1 d (.xd [(("mark" : Str), v)])) G d (.xd [(("mark" : Str), v)]) := ⟨_, mk.fld.at (fun o q => (gk d mk.apart).trans q), fun g => rel_bound rv g⟩
  have J : Inv X pins σ (upd H1 d (.xd [(("mark" : Str), v)])) ⟨G, g, dr, tk', os⟩ := I1.laid (t' := tk') old mk.late ob
  have none_e : upd H1 d (.xd [(("mark" : Str), v)]) e = none := by
    rw [upd_ne (Ne.symm mk.apart)]
    exact I1.hok.fresh mk.new
  refine ⟨e, oe, fv, ⟨G, g, dr, tk', os⟩, _, .ref C, some d, rfl, J, fun b o q => ?_, ge, hoe, ⟨hc, hd⟩, hdat, h1, none_e, rfl, I1.bare, raises_own T.sub T.tyC, q1 d (I1.hok.fresh mk.late)⟩
  have q0 : G.get? b = some o := q
  have hb : b ≠ e := fun z => by
    rw [z, ge] at q0
    cases q0
  exact (gk b hb).symm.trans q0
def gRaise (Fa : Rho → M Sv) (ρ : Rho) : M Out := (Fa ρ).bind fun s => M.thr ⟨"NoLast", some ("mark", s)⟩
theorem s_raise (T : TL X.K X.mg C f) (hc : X.calm = true) (hr : Room k X.A) (tk : Takes X (fun cls d _ H => E cls d H)) (ha : PX X E a Fa) (hg : Gl X "NoLast" := by rfl) (he : starEach (a :: []) X.env = (false, eval a X.env) :: starEach [] X.env := by rfl) (hpl : (backTo pos (starEach [] X.env)).any (·.1) = false := by rfl) :
    PSX X E (.Raise (some (.Call (.Name "NoLast" p) [a] [] pos)) none pos2) (gRaise Fa) := ps_weak (ps_raise hc tk (pmk_tl T hr (pa_cons ha pa_nil he) hg he hpl)) fun D σ H ⟨W, ρ, μ, r, h, e, q⟩ => by
  refine tX_bind h e q fun v s W1 H1 μ1 g1 h1 rs e1 q1 => ⟨v, rfl, fun d hd => ?_⟩
  cases e1
  exact q1 W1 _ (.ref C) (some d) ((Grow.refl _ _ _).out hd fun b hb => upd_ne hb) (h1.rel.lay hd) ⟨⟨C, T.nC, rfl⟩, d, v, rfl, upd_same, rs⟩
end
end Err_NoLast
end Pf

set_option maxHeartbeats 1000000
namespace Pf
open PySem PySem.Spec PyProof.Rows L2
section
variable {l l1 : En} {Fa : Rho → M Sv} {ta : S PyData}
end
end Pf

set_option maxHeartbeats 1000000
namespace Pf
open PySem PySem.Spec PyProof.Rows L2 LamX
/-! ### a lambda without parameters, called by the def that it was handed to (no repr is under way) -/
theorem lam_pass {X : Cx} {A : Around} {outer : List Env} {s : Shared} {H : Hp} {E : XK} {scope : Scope} {f c' : Addr} : Passes (L2.CX X.prog X.w) (lamCx X A outer s H E scope f c') E :=
  passes_call (takes_of rfl rfl rfl rfl) fun _ _ _ _ h => h
/-- what the maker knows of its lambda at f -/
structure Made (X : Cx) (s : Shared) (H : Hp) (params : Arguments) (body : Expr) (scope : Scope) (f c' : Addr) (pm ctv : Value) : Prop where
  obj : s.heap.get? f = some (PySem.W.kla_obj "<lambda>" (X.env.qual ++ "<lambda>") params body scope (cloFrom X.env.cells scope.names []) pm c' ctv)
  out : H f = none
  apart : f ∉ frs X.stack
section
variable {X : Cx} {pins : List (Addr × Obj)} {σ : L2.St} {H HZ : Hp} {s s1 : Shared} {params : Arguments} {body : Expr} {scope : Scope} {f c' : Addr} {pm ctv : Value}
/-- its run, at a state that grew out of the maker's -/
theorem lam_runs {k : Nat} {A : Around} {below : List Env} {E : XK} {Q : VK} {tb : TE} (I : Inv X pins σ H s) (L : LamS X.env.scope scope) (m : Made X s H params body scope f c' pm ctv)
    (e0 : Env0 X.prog X.w X.K X.mg X.base A below s1 HZ) (hr : Room (k + 1) A) (un : Un (frs X.stack) [] H HZ s.heap s1.heap) (nl : s1.heap.NoLimit)
    (code : HZ c' = some (CodeO c' (X.env.qual ++ "<lambda>"))) (hbind : bindArgs (PySem.W.kla_fn "<lambda>" (X.env.qual ++ "<lambda>") params body scope (cloFrom X.env.cells scope.names []) pm (.ref c') ctv) ⟨[], []⟩ = pure [])
    (hbody : PE (lamCx X A below s1 HZ E scope f c') body tb) (ht : tb σ HZ Q) :
    codeAny (model X.prog X.w) A (.call (.ref f) ⟨[], []⟩) (CR (L2.CX X.prog X.w) below X.prog X.w HZ s1 Q E) s1 := by
  have there := un.keep f _ m.obj m.out m.apart (fun z => nomatch (show f ∈ ([] : List Addr) from z))
  obtain ⟨⟨oc, vs, t, g1, g2, g3⟩, _, _⟩ := e0.hok c' _ code
  refine PySem.W.kla_callFunE hr.depth there rfl L.co L.gen rfl ⟨c', oc, vs, t, rfl, g1, g2, g3⟩ ?_
  rw [hbind]
  refine wpAny_pure (wpAny_newFunctionEnv (fun y hy => (L.own y hy).2) (fun y hy => absurd hy (by simp)) ?_ L.kind)
  intro h₁ hns hsb
  refine ⟨nl.fresh _ hsb, ?_⟩
  show codeAny _ _ (.expr body (lamEnv X scope s1.heap.objs.size f c')) _ _
  have kp : ∀ b o, s1.heap.get? b = some o → h₁.get? b = some o := fun b o e => hsb.extBut b o (Nat.ne_of_lt (Heap.lt_size e)) (Heap.get?_push_of_some _ e)
  have J := lam_start2 (E := E) (f := f) (c' := c') (tk := s1.toks + ([] : List (Str × Value)).length) I L e0 hr.hd un hns kp
  refine PySem.W.kla_codeExpr (wpAny_mono (hbody.run [] _ _ HZ Q J ht) ?_ fun _ _ z => z)
  intro v s' ⟨w', H', J', rv, q⟩
  exact ⟨w', H', J'.os, J'.bare, J'.base, J'.hok, rv, q⟩
/-- a() in that def -/
theorem pe_actG {CXg : CXT} {Eg : XK} {Ng : List Str} {qg : Str} {sg : Scope} {g : Addr} {cdg : Value} {k i : Nat} {a : Str} {pn : List (Addr × Obj)} {xe : Value → Shared → Prop} {W : WX} {E : XK} {tb : TE} {p1 p2 : Pos}
    (I : Inv X pins σ H s) (L : LamS X.env.scope scope) (m : Made X s H params body scope f c' pm ctv) (hgd : X.A.guards = some [])
    (hbind : bindArgs (PySem.W.kla_fn "<lambda>" (X.env.qual ++ "<lambda>") params body scope (cloFrom X.env.cells scope.names []) pm (.ref c') ctv) ⟨[], []⟩ = pure [])
    (tk : Takes ((cxOf CXg X.prog X.w X.K X.mg X.base Ng qg sg g cdg X.A X.stack s H Eg).tr pn xe) W) (hW : ∀ cls d H', E cls d H' → EW Ng.length W cls d H') (hr : Room (k + 1) (X.A.deeper (envOfC qg sg s.heap.objs.size g cdg)))
    (hbody : ∀ (A : Around) (below : List Env) (s : Shared) (H : Hp), A.guards = some [] → Room k (A.deeper (lamEnv X scope s.heap.objs.size f c')) → PE (lamCx X A below s H E scope f c') body tb)
    (hN : Ng[i]? = some a) (hv : Vis sg a) (hd : (a == ("__debug__" : Str)) = false) (hcd : (a == ("__classdict__" : Str)) = false) :
    PE ((cxOf CXg X.prog X.w X.K X.mg X.base Ng qg sg g cdg X.A X.stack s H Eg).tr pn xe) (.Call (.Name a p1) [] [] p2)
      (fun σZ HZ Q => σZ[i]? = some (some (.ref f)) ∧ HZ c' = some (CodeO c' (X.env.qual ++ "<lambda>")) ∧ tb σ HZ Q) := by
  have pass : Passes (L2.CX X.prog X.w) ((cxOf CXg X.prog X.w X.K X.mg X.base Ng qg sg g cdg X.A X.stack s H Eg).tr pn xe) E :=
    fun pins σ H s e s' I c => tk e s' (XE.of_call I (fun cls d H' h => hW cls d H' h σ I.len) c)
  refine ⟨fun pinsZ sZ σZ HZ Q IZ ⟨hs, hc, ht⟩ => ?_⟩
  have var := (pe_var (X := (cxOf CXg X.prog X.w X.K X.mg X.base Ng qg sg g cdg X.A X.stack s H Eg).tr pn xe) (pos := p1) (i := i) hN hv hd hcd).run pinsZ sZ σZ HZ (fun v H1 => v = .ref f ∧ H1 = HZ) IZ ⟨.ref f, hs, rfl, rfl⟩
  refine wpAny_Call_Name_kw (thn var ?_)
  rintro u s2 ⟨v, H1, I1, r1, rfl, rfl⟩
  obtain rfl : u = Value.ref f := r1
  have un : Un (frs X.stack) [] H H1 s.heap s2.heap := I1.base
  have there := un.keep f _ m.obj m.out m.apart (fun z => nomatch (show f ∈ ([] : List Addr) from z))
  refine PySem.W.callWith_F0 ⟨_, _, _, _, there⟩ ?_
  have run := lam_runs (Q := Q) I L m I1.env0 hr un I1.nolimit hc hbind (hbody _ _ s2 H1 hgd (hr.deeper _)) ht
  refine wpAny_call (codeAny_mono run ?_)
  intro r s3 hq
  match r, hq with
  | .error e, hq => exact pass pinsZ σZ H1 s2 e s3 I1 hq
  | .ok (.ret u), hq => exact I1.after hq
/-- the def that calls what it got: a calls it; TT: what it makes of the lambda's reading -/
def GivesG (X : Cx) (Ng : List Str) (x : Str) (sg : Scope) (g : Addr) (cdg : Value) (bg : List Stmt) (a : Str) (q : Str) (TT : (XK → Hp → VK → Prop) → Hp → VK → Prop) : Prop :=
  ∀ (f c' : Addr) (s : Shared) (H : Hp) (Q : VK) (tl : XK → Hp → VK → Prop),
    (∀ (W : WX) (pn : List (Addr × Obj)) (xe : Value → Shared → Prop) (E : XK) (p1 p2 : Pos), Takes ((cxOf C8.CX0 X.prog X.w X.K X.mg X.base Ng x sg g cdg X.A X.stack s H C8.E0).tr pn xe) W → (∀ cls d H', E cls d H' → EW Ng.length W cls d H') →
      PE ((cxOf C8.CX0 X.prog X.w X.K X.mg X.base Ng x sg g cdg X.A X.stack s H C8.E0).tr pn xe) (.Call (.Name a p1) [] [] p2) (fun σZ HZ Q => σZ[0]? = some (some (.ref f)) ∧ HZ c' = some (CodeO c' q) ∧ tl E HZ Q)) →
    H c' = some (CodeO c' q) → TT tl H Q →
    ∃ t, PSs (cxOf C8.CX0 X.prog X.w X.K X.mg X.base Ng x sg g cdg X.A X.stack s H C8.E0).nox bg t ∧ t { nx := fun _ H' => Q .non H', rt := Q } (L2.start Ng [.ref f]) H
/-- x(lambda: body) -/
theorem pe_lamG {X : Cx} {T : List (Addr × Str)} {TT : (XK → Hp → VK → Prop) → Hp → VK → Prop} {x a : Str} {g c P : Addr} {k : Nat} {fd : FuncData} {st : Stmt} {Ng : List Str} {params : Arguments} {body : Expr} {scope : Scope} {t : XK → TE} {p lpos pos : Pos}
    (F : Fun X.K x x st g fd) (hm : X.mg x = some (.ref g)) (hb : Binds X.K fd [a] []) (Sg : FnScope Ng [a] (defScope st)) (hNg : Ng[0]? = some a) (hva : Vis (defScope st) a)
    (hG : ∀ cdv, GivesG X Ng x (defScope st) g cdv (defBody st) a (X.env.qual ++ "<lambda>") TT) (TB : TabB X.base X.mg c P) (hcode : X.env.code = .ref c) (hmT : (P, X.env.qual ++ "<lambda>") ∈ T) (hu : ∀ p ∈ T, p.1 = P → p.2 = X.env.qual ++ "<lambda>")
    (hgd : X.A.guards = some []) (hr : Room (k + 2) X.A) (L : LamS X.env.scope scope) (hdef : defaultsOf params X.env = ([], []))
    (hbind : ∀ (q : Str) (cl : List (Str × Addr)) (pm cv ctv : Value), bindArgs (PySem.W.kla_fn "<lambda>" q params body scope cl pm cv ctv) ⟨[], []⟩ = pure [])
    (hbody : ∀ (A : Around) (below : List Env) (s : Shared) (H : Hp) (E : XK) (f c' : Addr), A.guards = some [] → Room k (A.deeper (lamEnv X scope s.heap.objs.size f c')) → PE (lamCx X A below s H E scope f c') body (t E))
    (hg : Gl X x) (hdb : (x == ("__debug__" : Str)) = false) (hd : (a == ("__debug__" : Str)) = false) (hcd : (a == ("__classdict__" : Str)) = false) :
    PE X (.Call (.Name x p) [.Lambda params body scope lpos] [] pos) (tLam T TT t) := by
  obtain ⟨oc, od, kV, doc, pm, an, cdv, ct, osl, rfl, lk, hcd2⟩ := F.ex
  refine ⟨fun pins s σ H Q I ⟨hT, h⟩ => ?_⟩
  refine wpAny_Call_Name_kw (ld_glob I hg hm ?_ hdb)
  refine PySem.W.callWith_K (h₀ := X.base) I.ok.mod.kin F.kp ?_ (by rfl) (by rfl)
  show wpAny _ _ (spliced ((false, eval (.Lambda params body scope lpos) X.env) :: backTo pos (starEach [] X.env))) _ _ s
  refine Calls.spliced_cons (lam_make2 I TB hcode hmT hu hT hdef (L.has I.ok) ?_)
  intro f c' pm' ctv H1 s' I1 eN T1 hf hfn hfr hco
  refine Calls.spliced_nil ⟨I1.kIn, ?_⟩
  have run : codeAny (model X.prog X.w) X.A (.call (.ref g) ⟨[.ref f], []⟩) (CR C8.CX0 X.stack X.prog X.w H1 s' Q C8.E0) s' := by
    refine run_ofS (N := Ng) (ps := [a]) (us := [.ref f]) (vs := [.ref f]) lk hcd2 Sg hr I1.env0 (hb s' [.ref f] I1.kIn rfl) (.cons rfl .nil) rfl ?_
    intro hr'
    obtain ⟨t', ht', hq'⟩ := hG cdv f c' s' H1 Q (fun E H' Q' => t E σ H' Q') (fun W pn xe E p1 p2 tk hW => pe_actG (i := 0) I1 L ⟨hf, hfn, hfr⟩ hgd (hbind _ _ _ _ _) tk hW hr' (fun A below s H h1 h2 => hbody A below s H E f c' h1 h2) hNg hva hd hcd) hco (h H1 eN T1)
    exact ⟨t', ht'.nox, hq'⟩
  refine wpAny_call (codeAny_mono run ?_)
  intro r s2 hq
  match r, hq with
  | .error e, hq => exact (show False from hq).elim
  | .ok (.ret u), hq => exact I1.after hq
end
end Pf

set_option maxHeartbeats 1000000
namespace Pf
open PySem PySem.Spec PyProof.Rows L2 LamX
/-! ### _law_told of k18, k19, k23, k24: the result of a call, or the name of its error with its pair -/
section
variable {X : Cx} {C f : Addr}
/-- what isinstance wants of the class of a caught error -/
def Kit (K : PySem.W.Frag) (C : Addr) : Prop := ∀ (x : Addr) (ox : Obj) (od : Option Obj), PySem.W.KitX K (.ref x) (.ref C) (fun h => PySem.W.InstAt h x ox C od)
theorem kit_is1 {a : Addr} {oe : Obj} {cls : Value} {d : Option Addr} {pn : List (Addr × Obj)} (T : Kit X.K C) (hz : Zc cls d oe) (hf : ∃ vs, oe.data = .fields vs) : CallR (X.suite a ((a, oe) :: pn)) (.builtin "isinstance") (rIs1 X.K C a cls d) := by
  intro pins s σ H xs us Q I r ⟨dd, fs, C1, b, e1, e2, hd, e3, hk, q⟩
  subst e1 e2 e3
  obtain ⟨u, u2, rfl, r1, r2⟩ := vals2 r
  cases r1
  cases r2
  obtain ⟨od, J⟩ := held_at I hz hf hd
  exact PySem.W.kia_one (T _ _ _) I.kIn J hk (fun z => nomatch z) fun tk => ⟨.bl b, H, I.kept (t' := tk) fun _ _ z => z, rfl, q⟩
/-- isinstance(e, C) of a class of the builtins -/
def rIsT (K : PySem.W.Frag) (C a : Addr) (cls : Value) (d : Option Addr) : List V → Hp → VK → Prop := fun xs H Q => ∃ (dd : Addr) (fs : List (Str × V)) (n : String) (b : Bool), cls = .ref C ∧ d = some dd ∧ H dd = some (.xd fs) ∧ xs = [.ref a, .ty n] ∧ PySem.W.kitOne K (.ref C) (.type n) = some b ∧ Q (.bl b) H
theorem kit_isT {a : Addr} {oe : Obj} {cls : Value} {d : Option Addr} {pn : List (Addr × Obj)} (T : Kit X.K C) (hz : Zc cls d oe) (hf : ∃ vs, oe.data = .fields vs) : CallR (X.suite a ((a, oe) :: pn)) (.builtin "isinstance") (rIsT X.K C a cls d) := by
  intro pins s σ H xs us Q I r ⟨dd, fs, n, b, e1, e2, hd, e3, hk, q⟩
  subst e1 e2 e3
  obtain ⟨u, u2, rfl, r1, r2⟩ := vals2 r
  cases r1
  cases r2
  obtain ⟨od, J⟩ := held_at I hz hf hd
  exact PySem.W.kia_one (T _ _ _) I.kIn J hk (fun z => nomatch z) fun tk => ⟨.bl b, H, I.kept (t' := tk) fun _ _ z => z, rfl, q⟩
theorem kit_isN {a : Addr} {oe : Obj} {cls : Value} {d : Option Addr} {pn : List (Addr × Obj)} (T : Kit X.K C) (hz : Zc cls d oe) (hf : ∃ vs, oe.data = .fields vs) : CallR (X.suite a ((a, oe) :: pn)) (.builtin "isinstance") (rIsN X.K C a cls d) := by
  intro pins s σ H xs us Q I r ⟨dd, fs, t, cs, cvs, b, e1, e2, hd, e3, ht, hcs, hk, q⟩
  subst e1 e2 e3
  obtain ⟨u, u2, rfl, r1, r2⟩ := vals2 r
  cases r1
  cases r2
  obtain ⟨od, J⟩ := held_at I hz hf hd
  obtain ⟨its, rv, ⟨⟨cl, dc, dt, sl⟩, ho, hc, n, hdt⟩, _⟩ := I.tuple (SqT.of ht)
  have e := clss_rel hcs rv
  subst e
  simp only at hc hdt
  subst hc hdt
  exact PySem.W.kia_tup (T _ _ _) I.kIn J ho hk (fun z => nomatch z) fun tk => ⟨.bl b, H, I.kept (t' := tk) fun _ _ z => z, rfl, q⟩
end
/-- the classes that _law_told names, and the one class C that is caught -/
structure ToldZ (K : PySem.W.Frag) (mg : Str → Option Value) (C CF cT cC b1 b2 b3 : Addr) (tb : Bool) : Prop where
  kit : Kit K C
  xf : XfC K C
  xp : PySem.W.findIn K (.ref C) "pair" = some none
  gF : mg "FallError" = some (.ref CF)
  gT : mg "NoTable" = some (.ref cT)
  gC : mg "Conflict" = some (.ref cC)
  g1 : mg "BadTree" = some (.ref b1)
  g2 : mg "BadWindows" = some (.ref b2)
  g3 : mg "TooLarge" = some (.ref b3)
  gV : mg "ValueError" = none
  gI : mg "isinstance" = none
  ex : PySem.W.exmOne K (.ref C) (.ref CF) = some true
  kV : PySem.W.kitOne K (.ref C) (.type "ValueError") = some true
  kN : PySem.W.kitAny K (.ref C) [.ref b1, .ref b2, .ref b3] = some false
  kT : PySem.W.kitOne K (.ref C) (.ref cT) = some tb
  kC : PySem.W.kitOne K (.ref C) (.ref cC) = some (!tb)
def wordOf (tb : Bool) : Str := if tb = true then "table" else "conflict"
/-- what the def makes of its call -/
def TTold (C : Addr) (tb : Bool) : (XK → Hp → VK → Prop) → Hp → VK → Prop := fun tl H Q => ∀ (E' : XK) (Q' : VK),
  (∀ v H', ([V.str "result", v].length ≤ sizeLine → ∀ p, H' p = none → Q (.ref p) (upd H' p (.lst [.str "result", v]))) → Q' v H') →
  (∀ cls d H', (cls = .ref C ∧ ∃ dd v, d = some dd ∧ H' dd = some (.xd [("pair", v)]) ∧ ∀ p0 t o p, H' p0 = none → upd H' p0 (.lst [.str "other"]) t = none → upd (upd H' p0 (.lst [.str "other"])) t o p = none → Q (.ref p) (upd (upd (upd H' p0 (.lst [.str "other"])) t o) p (.lst [.str (wordOf tb), v]))) → E' cls d H') → tl E' H Q'
abbrev N_told : List Str := ["_law_call", "_law_found", "e"]
def tIs (K : PySem.W.Frag) (C a : Addr) (cls : Value) (d : Option Addr) (b : Addr) : TT := tB (tCB (rIs1 K C a cls d) (tCons (tVar 2) (tCons (tC (.ref b)) tNil)))
def tLf (w : Str) (C a : Addr) (cls : Value) (d : Option Addr) : TS := tAsg (tLst (tCons (tC (.str w)) (tCons (tXf a cls d C "pair" (tVar 2)) tNil))) (gName 1)
/-- the except suite -/
def tsTold (K : PySem.W.Frag) (C cT cC b1 b2 b3 : Addr) (a : Addr) (cls : Value) (d : Option Addr) : TS :=
  tSeq (tAsg (tLst (tCons (tC (.str "other")) tNil)) (gName 1))
    (tIfS (tAnd (tB (tCB (rIsT K C a cls d) (tCons (tVar 2) (tCons (tC (.ty "ValueError")) tNil)))) (tNot (tB (tCB (rIsN K C a cls d) (tCons (tVar 2) (tCons (tTup (tCons (tC (.ref b1)) (tCons (tC (.ref b2)) (tCons (tC (.ref b3)) tNil)))) tNil))))))
      (tIfS (tAnd (tIs K C a cls d cT) (tNot (tIs K C a cls d cC))) (tLf "table" C a cls d) (tIfS (tAnd (tIs K C a cls d cC) (tNot (tIs K C a cls d cT))) (tLf "conflict" C a cls d) tNext)) tNext)
theorem told_givesP {X : Cx} {sg : Scope} {g C CF cT cC b1 b2 b3 : Addr} {cdg : Value} {q : Str} {tb : Bool} {j1 j2 j3 j4 j5 k1 : Nat} {q1 q2 p1 p2 p3 p4 p5 p6 p7 p8 p9 p10 p11 p12 p13 p14 p15 p16 p17 p18 p19 p20 p21 p22 p23 p24 p25 p26 p27 p28 p29 p30 p31 p32 p33 p34 p35 p36 p37 p38 p39 p40 p41 p42 p43 p44 p45 p46 p47 p48 p49 p50 p51 p52 p53 p54 p55 p56 p57 p58 p59 p60 p61 p62 p63 p64 : Pos}
    (Z : ToldZ X.K X.mg C CF cT cC b1 b2 b3 tb) (vc : Vis sg "_law_call") (vf : Vis sg "_law_found") (ve : Vis sg "e") (lf : Loc sg "_law_found") (ln : sg.names.lookup ("_law_found" : Str) = some .local) (le : sg.names.lookup ("e" : Str) = some .local)
    (gl : ∀ x ∈ [("FallError" : Str), "NoTable", "Conflict", "BadTree", "BadWindows", "TooLarge", "ValueError", "isinstance"], sg.names.lookup x = some .globalImplicit) :
    GivesG X N_told "_law_told" sg g cdg [.Assign [.Name "_law_found" p49] (.Constant .none j1 p50) p51,
      .Try [.Assign [.Name "_law_found" p52] (.List [.Constant (.str "result") j2 p53, .Call (.Name "_law_call" q1) [] [] q2] p54) p55] [.ExceptHandler (some (.Name "FallError" p56)) (some "e") [.Assign [.Name "_law_found" p57] (.List [.Constant (.str "other") j3 p58] p59) p60, .If (.BoolOp .And [.Call (.Name "isinstance" p42) [.Name "e" p43, .Name "ValueError" p44] [] p45, .UnaryOp .Not (.Call (.Name "isinstance" p35) [.Name "e" p36, .Tuple [.Name "BadTree" p37, .Name "BadWindows" p38, .Name "TooLarge" p39] k1 p40] [] p41) p46] p47) [.If (.BoolOp .And [.Call (.Name "isinstance" p18) [.Name "e" p19, .Name "NoTable" p20] [] p21, .UnaryOp .Not (.Call (.Name "isinstance" p22) [.Name "e" p23, .Name "Conflict" p24] [] p25) p26] p27) [.Assign [.Name "_law_found" p30] (.List [.Constant (.str "table") j4 p31, .Attribute (.Name "e" p28) "pair" p29] p32) p33] [.If (.BoolOp .And [.Call (.Name "isinstance" p1) [.Name "e" p2, .Name "Conflict" p3] [] p4, .UnaryOp .Not (.Call (.Name "isinstance" p5) [.Name "e" p6, .Name "NoTable" p7] [] p8) p9] p10) [.Assign [.Name "_law_found" p13] (.List [.Constant (.str "conflict") j5 p14, .Attribute (.Name "e" p11) "pair" p12] p15) p16] [] p17] p34] [] p48] p61] [] [] p62,
      .Return (some (.Name "_law_found" p63)) p64] "_law_call" q (TTold C tb) := by
  intro f c' s H Q tl act hc h
  have nd : N_told.Nodup := by decide
  have gl' : ∀ x ∈ [("FallError" : Str), "NoTable", "Conflict", "BadTree", "BadWindows", "TooLarge", "ValueError", "isinstance"], Gl (cxOf C8.CX0 X.prog X.w X.K X.mg X.base N_told "_law_told" sg g cdg X.A X.stack s H C8.E0).nox x := gl
  refine ⟨_, pss_cons (ps_set (i := 1) nd rfl lf pe_non rfl (.inr ln)) (pss_cons (ps_try_as (X := (cxOf C8.CX0 X.prog X.w X.K X.mg X.base N_told "_law_told" sg g cdg X.A X.stack s H C8.E0).nox) (i := 2) (c := .ref CF) (ts := tsTold X.K C cT cC b1 b2 b3)
      (tb := fun W D σ H => ∃ Ech : XK, (∀ cls d H', Ech cls d H' → EW 3 W cls d H') ∧ σ[0]? = some (some (.ref f)) ∧ H c' = some (CodeO c' q) ∧ tl Ech H fun v H' => [V.str "result", v].length ≤ sizeLine ∧ ∀ p, H' p = none → D.nx (σ.set 1 (some (.ref p))) (upd H' p (.lst [.str "result", v])))
      (Wout := fun _ _ _ _ => False) rfl rfl nd rfl ?kind ⟨gl' _ (by decide), by decide, .inl Z.gF⟩ L2.takes0 (fun W pn xe tk _ => ⟨fun pins s' σ H' D I ⟨Ech, hW, h1, h2, h3⟩ => (pss_one (ps_set (i := 1) nd rfl lf (pe_lst (pa_cons pe_str (pa_cons (act W pn xe Ech _ _ tk hW) pa_nil))) rfl (.inr ln))).run pins s' σ H' D I ⟨h1, h2, h3⟩⟩) (fun a oe cls d pn hz hfl => ?suite)) (pss_one (ps_ret (pe_var (i := 1) rfl vf (by decide) (by decide))))), ?fin⟩
  case kind => exact le
  case suite =>
    have nm : ∀ p, PE ((cxOf C8.CX0 X.prog X.w X.K X.mg X.base N_told "_law_told" sg g cdg X.A X.stack s H C8.E0).nox.suite a ((a, oe) :: pn)) (.Name "e" p) (tVar 2) := fun p => pe_var rfl ve (by decide) (by decide)
    have cg : ∀ {x : Str} {b : Addr} (p : Pos), Gl (cxOf C8.CX0 X.prog X.w X.K X.mg X.base N_told "_law_told" sg g cdg X.A X.stack s H C8.E0).nox x → X.mg x = some (.ref b) → (x == ("__debug__" : Str)) = false → PE ((cxOf C8.CX0 X.prog X.w X.K X.mg X.base N_told "_law_told" sg g cdg X.A X.stack s H C8.E0).nox.suite a ((a, oe) :: pn)) (.Name x p) (tC (.ref b)) := fun p h1 h2 h3 => pe_glob h1 h2 rfl h3
    have gI := gl' "isinstance" (by decide)
    have one : ∀ {x : Str} {b : Addr} (r1 r2 r3 r4 : Pos), Gl (cxOf C8.CX0 X.prog X.w X.K X.mg X.base N_told "_law_told" sg g cdg X.A X.stack s H C8.E0).nox x → X.mg x = some (.ref b) → (x == ("__debug__" : Str)) = false → PE ((cxOf C8.CX0 X.prog X.w X.K X.mg X.base N_told "_law_told" sg g cdg X.A X.stack s H C8.E0).nox.suite a ((a, oe) :: pn)) (.Call (.Name "isinstance" r1) [.Name "e" r2, .Name x r3] [] r4) (tCB (rIs1 X.K C a cls d) (tCons (tVar 2) (tCons (tC (.ref b)) tNil))) :=
      fun r1 r2 r3 r4 h1 h2 h3 => pe_callB (kit_is1 (X := (cxOf C8.CX0 X.prog X.w X.K X.mg X.base N_told "_law_told" sg g cdg X.A X.stack s H C8.E0).nox) Z.kit hz hfl) gI Z.gI PyProof.Rows.boot_isinstance (pa_cons (nm r2) (pa_cons (cg r3 h1 h2 h3) pa_nil))
    have vb : ∀ p, PE ((cxOf C8.CX0 X.prog X.w X.K X.mg X.base N_told "_law_told" sg g cdg X.A X.stack s H C8.E0).nox.suite a ((a, oe) :: pn)) (.Name "ValueError" p) (tC (.ty "ValueError")) := fun p => pe_bltn (gl' "ValueError" (by decide)) Z.gV (by decide +kernel) rfl
    have xf : ∀ r1 r2, PE ((cxOf C8.CX0 X.prog X.w X.K X.mg X.base N_told "_law_told" sg g cdg X.A X.stack s H C8.E0).nox.suite a ((a, oe) :: pn)) (.Attribute (.Name "e" r1) "pair" r2) (tXf a cls d C "pair" (tVar 2)) := fun r1 r2 => pe_xf (X := (cxOf C8.CX0 X.prog X.w X.K X.mg X.base N_told "_law_told" sg g cdg X.A X.stack s H C8.E0).nox) Z.xf Z.xp hz hfl (nm r1)
    exact pss_cons (ps_set (i := 1) nd rfl lf (pe_lst (pa_cons pe_str pa_nil)) rfl (.inr ln))
      (pss_one (ps_if (pw_and (pt_val (pe_callB (kit_isT (X := (cxOf C8.CX0 X.prog X.w X.K X.mg X.base N_told "_law_told" sg g cdg X.A X.stack s H C8.E0).nox) Z.kit hz hfl) gI Z.gI PyProof.Rows.boot_isinstance (pa_cons (nm _) (pa_cons (vb _) pa_nil))))
        (pw_and1 (pt_not (pt_val (pe_callB (kit_isN (X := (cxOf C8.CX0 X.prog X.w X.K X.mg X.base N_told "_law_told" sg g cdg X.A X.stack s H C8.E0).nox) Z.kit hz hfl) gI Z.gI PyProof.Rows.boot_isinstance (pa_cons (nm _) (pa_cons (pe_tup (pa_cons (cg _ (gl' "BadTree" (by decide)) Z.g1 (by decide)) (pa_cons (cg _ (gl' "BadWindows" (by decide)) Z.g2 (by decide)) (pa_cons (cg _ (gl' "TooLarge" (by decide)) Z.g3 (by decide)) pa_nil)))) pa_nil))))))).pt
        (pss_one (ps_if (pw_and (pt_val (one _ _ _ _ (gl' "NoTable" (by decide)) Z.gT (by decide))) (pw_and1 (pt_not (pt_val (one _ _ _ _ (gl' "Conflict" (by decide)) Z.gC (by decide)))))).pt
          (pss_one (ps_set (i := 1) nd rfl lf (pe_lst (pa_cons pe_str (pa_cons (xf _ _) pa_nil))) rfl (.inr ln)))
          (pss_one (ps_if (pw_and (pt_val (one _ _ _ _ (gl' "Conflict" (by decide)) Z.gC (by decide))) (pw_and1 (pt_not (pt_val (one _ _ _ _ (gl' "NoTable" (by decide)) Z.gT (by decide)))))).pt
            (pss_one (ps_set (i := 1) nd rfl lf (pe_lst (pa_cons pe_str (pa_cons (xf _ _) pa_nil))) rfl (.inr ln)))
            pss_nil))))
        pss_nil))
  case fin =>
    obtain ⟨hT⟩ : True := trivial
    refine ⟨_, ?_, rfl, hc, h (fun cls d H' => cls = .ref C ∧ ∃ dd v, d = some dd ∧ H' dd = some (.xd [("pair", v)]) ∧ ∀ p0 t o p, H' p0 = none → upd H' p0 (.lst [.str "other"]) t = none → upd (upd H' p0 (.lst [.str "other"])) t o p = none → Q (.ref p) (upd (upd (upd H' p0 (.lst [.str "other"])) t o) p (.lst [.str (wordOf tb), v]))) _ ?_ fun _ _ _ z => z⟩
    rotate_left
    · intro v H' hq
      have z : [V.str "result", v].length ≤ sizeLine := by show 2 ≤ sizeLine; decide
      exact ⟨z, fun p hp => ⟨.ref p, rfl, hq z p hp⟩⟩
    intro cls d H' ⟨ec, dd, v, ed, hd, hq⟩ σ' hl
    subst ec ed
    refine ⟨true, Z.ex, fun _ a ha => ?_, fun z => nomatch z⟩
    have si : (σ'.set 2 (some (V.ref a)))[2]? = some (some (.ref a)) := List.getElem?_set_self (by rw [hl]; decide)
    refine ⟨by show 1 ≤ sizeLine; decide, fun p0 hp0 => ?_⟩
    have s2 : ((σ'.set 2 (some (V.ref a))).set 1 (some (V.ref p0)))[2]? = some (some (.ref a)) := by rw [List.getElem?_set_ne (by decide)]; exact si
    have hd1 : upd H' p0 (.lst [V.str "other"]) dd = some (.xd [("pair", v)]) := by
      rw [upd_ne (ne_of_none hd hp0)]
      exact hd
    refine ⟨.ref a, s2, dd, _, "ValueError", true, rfl, rfl, hd1, rfl, Z.kV, true, rfl, ?_⟩
    refine ⟨.ref a, s2, (by show 3 ≤ sizeLine; decide), fun t ht => ?_⟩
    have hd2 : ∀ o, upd (upd H' p0 (.lst [V.str "other"])) t o dd = some (.xd [("pair", v)]) := fun o => by
      rw [upd_ne (ne_of_none hd1 ht)]
      exact hd1
    refine ⟨dd, _, t, _, _, false, rfl, rfl, hd2 _, rfl, upd_same, rfl, Z.kN, false, rfl, ?_⟩
    have fin : ∀ (w : Str) (o : HO), w = wordOf tb → tLf w C a (.ref C) (some dd) { nx := fun σ'' H'' => tRet (tVar 1) { nx := fun _ H' => Q .non H', rt := Q } (σ''.set 2 none) H'', rt := Q, bk := fun _ _ => False, ct := fun _ _ => False } ((σ'.set 2 (some (V.ref a))).set 1 (some (V.ref p0))) (upd (upd H' p0 (.lst [V.str "other"])) t o) := fun w o ew => by
      subst ew
      refine ⟨.ref a, s2, rfl, rfl, dd, _, v, rfl, hd2 _, rfl, (by show 2 ≤ sizeLine; decide), fun p hp => ?_⟩
      refine ⟨.ref p, ?_, hq p0 t o p hp0 ht hp⟩
      rw [List.getElem?_set_ne (by decide), List.getElem?_set_self]
      rw [List.length_set, List.length_set, hl]
      decide
    have kT := Z.kT
    have kC := Z.kC
    cases tb with
    | true =>
      refine ⟨.ref a, s2, dd, _, cT, true, rfl, rfl, hd2 _, rfl, kT, true, rfl, ?_⟩
      refine ⟨.ref a, s2, dd, _, cC, false, rfl, rfl, hd2 _, rfl, kC, false, rfl, ?_⟩
      exact fin _ _ rfl
    | false =>
      refine ⟨.ref a, s2, dd, _, cT, false, rfl, rfl, hd2 _, rfl, kT, false, rfl, ?_⟩
      refine ⟨.ref a, s2, dd, _, cC, true, rfl, rfl, hd2 _, rfl, kC, true, rfl, ?_⟩
      refine ⟨.ref a, s2, dd, _, cT, false, rfl, rfl, hd2 _, rfl, kT, false, rfl, ?_⟩
      exact fin _ _ rfl
/-! ### its reading -/
def toldV (Cn word : Str) (F : Rho → M Sv) (ρ : Rho) : M Sv := fun μ => match F ρ μ with
  | some (.ok v μ') => mkl false [.dat (.str "result"), v] μ'
  | some (.ex ⟨c, some (g, s)⟩ μ') => if c = Cn ∧ g = "pair" then mkl false [.dat (.str word), s] μ' else none
  | _ => none
theorem rel_tables {K : PySem.W.Frag} {W : Wd} {H H1 : Hp} {μ : Mu} (R : Rel K W H μ) (e : ExtN H H1) (t : Tabs lamT H1) : Rel K W H1 μ where
  sub := fun b o h => e b o (R.sub b o h) fun ps z => R.nt b ps (by rw [h, z])
  obj := fun i o h => by
    cases o with
    | gone => trivial
    | lst xs =>
      obtain ⟨vs, h1, h2⟩ := R.obj i _ h
      exact ⟨vs, e _ _ h1 fun ps z => (by cases z), h2⟩
  own := R.own
  inj := R.inj
  tab := t
  sm := by
    rcases R.sm with h | ⟨om, es, ep, h1, h2⟩
    · exact .inl h
    · exact .inr ⟨om, es, ep, e _ _ h1 fun ps z => (by cases z), h2⟩
  nt := R.nt
theorem grow_tables {W : Wd} {H H1 : Hp} {μ : Mu} (e : ExtN H H1) : Grow W H μ W H1 μ := ⟨Gr0.refl _ _, fun a o h n l => ⟨e a o h n, l⟩⟩
theorem x_told {X : Cx} {E : XK} {g c P C : Addr} {k : Nat} {fd : FuncData} {st : Stmt} {tb : Bool} {Cn : Str} {params : Arguments} {body : Expr} {scope : Scope} {F : Rho → M Sv} {p lpos pos : Pos}
    (Fn : Fun X.K "_law_told" "_law_told" st g fd) (hm : X.mg "_law_told" = some (.ref g)) (hb : Binds X.K fd ["_law_call"] []) (Sg : FnScope N_told ["_law_call"] (defScope st))
    (hG : ∀ cdv, GivesG X N_told "_law_told" (defScope st) g cdv (defBody st) "_law_call" (X.env.qual ++ "<lambda>") (TTold C tb)) (nC : PySem.W.nsIn X.K mainGlobals Cn = some (some (.ref C))) {wd : Str} (hw : wordOf tb = wd)
    (TB : TabB X.base X.mg c P) (hcode : X.env.code = .ref c) (hT : lamT = [(P, X.env.qual ++ "<lambda>")])
    (hgd : X.A.guards = some []) (hr : Room (k + 2) X.A) (L : LamS X.env.scope scope)
    (hbody : ∀ (A : Around) (below : List Env) (s : Shared) (H : Hp) (E : XK) (f c' : Addr), A.guards = some [] → Room k (A.deeper (lamEnv X scope s.heap.objs.size f c')) → PX (lamCx X A below s H E scope f c') E body F)
    (hg : Gl X "_law_told" := by rfl) (hva : Vis (defScope st) "_law_call" := by first | exact Or.inl rfl | exact Or.inr (Or.inl rfl) | exact Or.inr (Or.inr rfl)) (hdef : defaultsOf params X.env = ([], []) := by rfl)
    (hbind : ∀ (q : Str) (cl : List (Str × Addr)) (pm cv ctv : Value), bindArgs (PySem.W.kla_fn "<lambda>" q params body scope cl pm cv ctv) ⟨[], []⟩ = pure [] := by intro _ _ _ _ _; rfl) :
    PX X E (.Call (.Name "_law_told" p) [.Lambda params body scope lpos] [] pos) (toldV Cn wd F) := by
  subst hw
  refine pe_weak (pe_lamG (T := lamT) (TT := TTold C tb) (t := fun E => tX X.K E F) Fn hm hb Sg rfl hva hG TB hcode (by rw [hT]; exact List.mem_cons_self) (fun p hp _ => by rw [hT] at hp; rw [List.mem_singleton.mp hp]) hgd hr L hdef hbind hbody hg (by decide) (by decide) (by decide)) ?_
  intro σ H Q ⟨W, ρ, μ, r, h, e, q⟩
  refine ⟨h.rel.tab, fun H1 eN t1 E' Q' hQ hE => ?_⟩
  have g0 : Grow W H μ W H1 μ := grow_tables eN
  have h1 : Here X.K W σ H1 ρ μ := ⟨rel_tables h.rel eN t1, h.sl⟩
  unfold toldV at e
  cases eF : F ρ μ with
  | none =>
    rw [eF] at e
    cases e
  | some r' =>
    rw [eF] at e
    refine ⟨W, ρ, μ, r', h1, eF, ?_⟩
    cases r' with
    | ok v μ' =>
      intro W' H' g R u ru
      exact hQ u H' fun _ p hp => mkl_ok (E := E) R hp (.cons (show SvR X.K W' μ'.length (V.str "result") (.dat (.str "result")) from Dq.str _) (.cons ru .nil)) e (q.later (g0.trans g))
    | ex c μ' =>
      obtain ⟨c, fld⟩ := c
      cases fld with
      | none => cases e
      | some gs =>
        obtain ⟨gn, sv⟩ := gs
        dsimp only at e
        split at e
        · rename_i cg
          obtain ⟨rfl, rfl⟩ := cg
          intro W' H' cls d g R ⟨⟨C', hC', ec⟩, dd, v, ed, hd, rv⟩
          rw [nC] at hC'
          cases hC'
          refine hE cls d H' ⟨ec, dd, v, ed, hd, fun p0 t o p hp0 ht hp => ?_⟩
          have R1 : Rel X.K W' (upd H' p0 (.lst [V.str "other"])) μ' := R.lay hp0
          have R2 : Rel X.K W' (upd (upd H' p0 (.lst [V.str "other"])) t o) μ' := R1.lay ht
          have g1 : Grow W H μ W' (upd H' p0 (.lst [V.str "other"])) μ' := (g0.trans g).trans ((Grow.refl _ _ _).out hp0 fun b hb => upd_ne hb)
          have g2 : Grow W H μ W' (upd (upd H' p0 (.lst [V.str "other"])) t o) μ' := g1.trans ((Grow.refl _ _ _).out ht fun b hb => upd_ne hb)
          exact mkl_ok (E := E) R2 hp (.cons (show SvR X.K W' μ'.length (V.str (wordOf tb)) (.dat (.str (wordOf tb))) from Dq.str _) (.cons rv .nil)) e (q.later g2)
        · cases e
/-- a block's scope, as the block of a comprehension has it -/
def relabS (cs sc : Scope) : Scope := { cs with names := cs.names.map fun (n, k) => if (k == .free && sc.kind == .function && sc.names.lookup n == some .cell) then (n, .cell) else (n, k) }
theorem lamS_blk {X : Cx} {s : Shared} {H : Hp} {cs : Scope} {cl : List (Str × Addr)} {D : Addr} {fp : List Addr} {sc scope : Scope} (hs : X.env.scope = sc) (h : lamSB (relabS cs sc) scope = true) : LamS (X.blk s H cs (compEnvC cs cl D X.env) fp).env.scope scope := by
  subst hs
  exact lamS_by h
end Pf

set_option maxHeartbeats 1000000
namespace Pf
open PySem PySem.Spec PyProof.Rows L2 LamX
/-! ### the law's own call, its code object's table known -/
section
variable {P : Program} {w : World} {K : PySem.W.Frag} {mg mb : Str → Option Value} {k : Nat} {fa a c D : Addr} {fd : FuncData} {x : Str} {sp : Sp} {s₁ : Shared} {vs : List Value} {ns : List Int}
theorem law_fromT (KX : K.In s₁.heap) (hns : s₁.heap.Ns mainGlobals mg) (hb : s₁.heap.Ns builtinsNs mb) (hbb : ∀ x : Str, x ≠ "__name__" → mb x = bootBuiltins x) (hlim : s₁.heap.NoLimit) (hg : s₁.gens = #[])
    {own : Obj} (ha : s₁.heap.get? a = some own) (hseq : ∃ us n, own.data = .seq us n) (hr : Room k callerA)
    (hT : s₁.heap.get? D = some { cls := .none, data := .fields #[] }) (nD : K.lookup D = none) (cH : PySem.W.CodeHd s₁.heap c D)
    (hbm : ∃ (bm : Addr) (ob : Obj), mg "__builtins__" = some (.ref bm) ∧ bm ≠ builtinsNs ∧ s₁.heap.get? bm = some ob ∧ ob.cls = .type "module" ∧ ob.dict = some builtinsNs ∧ ob.data = .plain)
    (F : ∀ base : Heap, K.In base → base.Ns mainGlobals mg → TabB base mg c D → Gk P w K mg base (L2.CX P w) k fa fd [x] sp) (hbind : ∀ (s : Shared) (u : Value), BindsTo s fd ⟨[u], []⟩ [(x, u)])
    (H : Hp) (only : ∀ b, b ≠ D → H b = none ∨ ∃ ob u, H b = some (.frz ob u)) (hD : H D = some (.tbl #[])) (hok : HOk P w H s₁.heap) (one : ∀ b, b ≠ D → b ≠ sysModules → H b ≠ none → b = a) (apart : H a ≠ none → K.lookup a = none) (aps : H sysModules ≠ none → K.lookup sysModules = none)
    {om : Obj} {es0 : Array DictEntry} {ep0 : Nat} (hsy : s₁.heap.get? sysModules = some om) (hsd : om.data = .dict es0 ep0)
    (hsp : sp [.ref a] H (fun v _ => v = .bl true) fun _ _ _ => False) : codeAny (model P w) callerA (.call (.ref fa) ⟨[.ref a], []⟩) (LawEnd s₁) s₁ := by
  -- what is neither the script nor the table is not tracked
  have free : ∀ {b : Addr} {o : Obj}, b ≠ sysModules → s₁.heap.get? b = some o → (∀ us n, o.data ≠ .seq us n) → o.data ≠ .fields #[] → H b = none := by
    intro b o nb e h1 h2
    by_cases hb : b = D
    · subst hb
      rw [hT] at e
      cases e
      exact (h2 rfl).elim
    · cases q : H b with
      | none => rfl
      | some u =>
        have eb : b = a := one b hb nb fun z => by
          rw [q] at z
          cases z
        subst eb
        rw [ha] at e
        cases e
        obtain ⟨us, n, z⟩ := hseq
        exact (h1 us n z).elim
  have dictFree : ∀ {b : Addr} {o : Obj} {es : Array DictEntry} {ep : Nat}, b ≠ sysModules → s₁.heap.get? b = some o → o.data = .dict es ep → H b = none := fun nb e d => free nb e (fun us n z => by rw [d] at z; cases z) fun z => by rw [d] at z; cases z
  have sees : ∀ {b : Addr} {m : Str → Option Value}, b ≠ sysModules → s₁.heap.Ns b m → (hidT s₁.heap H).Ns b m := by
    intro b m nb ⟨o, es, ep, e, d, r⟩
    exact ⟨o, es, ep, hidT_get e (dictFree nb e d), d, r⟩
  have nos : ∀ {b : Addr} {o : Obj}, s₁.heap.get? b = some o → (∀ es ep, o.data ≠ .dict es ep) → b ≠ sysModules := fun e h z => by
    rw [z, hsy] at e
    cases e
    exact h _ _ hsd
  have inB : K.In (hidT s₁.heap H) := by
    intro b o e
    refine hidT_get (KX b o e) ?_
    by_cases hb : b = D
    · rw [hb, nD] at e
      cases e
    · cases q : H b with
      | none => rfl
      | some u =>
        have nn : H b ≠ none := fun z => by
          rw [q] at z
          cases z
        by_cases hbs : b = sysModules
        · rw [hbs] at e nn
          rw [aps nn] at e
          cases e
        · have eb : b = a := one b hb hbs nn
          rw [eb] at e nn
          rw [apart nn] at e
          cases e
  have lim : (hidT s₁.heap H).NoLimit := by
    obtain ⟨mc, h1, h2⟩ := hlim
    exact ⟨mc, sees (by decide) h1, h2⟩
  have md : Mod K mg (hidT s₁.heap H) := ⟨inB, sees (by decide) hns, ⟨mb, sees (by decide) hb, hbb⟩, lim⟩
  have tabb : TabB (hidT s₁.heap H) mg c D := by
    refine ⟨?_, ?_, fun z => ?_⟩
    · obtain ⟨o, us, file, tf, flags, tg, inF, text, tt, e1, r1, r2, r3, rest⟩ := cH
      refine ⟨o, us, file, tf, flags, tg, inF, text, tt, hidT_get e1 (free (nos e1 fun es ep z => ?_) e1 (fun vs n z => ?_) fun z => ?_), r1, r2, r3, rest⟩
      · rw [r2] at z
        cases z
      · rw [r2] at z
        cases z
      · rw [r2] at z
        cases z
        simp at r3
    · obtain ⟨bm, ob, m1, m2, m3, m4, m5, m6⟩ := hbm
      have n1 : bm ≠ mainGlobals := fun z => by
        obtain ⟨o, es, ep, e, d, _⟩ := hns
        rw [z, e] at m3
        cases m3
        rw [d] at m6
        cases m6
      have n2 : bm ≠ D := fun z => by
        rw [z, hT] at m3
        cases m3
        cases m6
      exact ⟨bm, ob, m1, m2, n1, n2, hidT_get m3 (free (nos m3 fun es ep z => by rw [m6] at z; cases z) m3 (fun us n z => by rw [m6] at z; cases z) fun z => by rw [m6] at z; cases z), m4, m5, m6⟩
    · obtain ⟨o, es, ep, e, d, _⟩ := hns
      rw [z, hT] at e
      cases e
      cases d
  have gone : ∀ b ∈ frs ([] : List Env), H b = none := fun b z => absurd (show b ∈ ([] : List Addr) from z) List.not_mem_nil
  have e0 : Env0 P w K mg (hidT s₁.heap H) callerA [] s₁ H := ⟨rfl, md, fun _ _ e => of_hidT e, Nat.le_of_eq (hidT_size _ _), trivial, gone, hok, .of_eq hg⟩
  have go := (F (hidT s₁.heap H) inB (sees (by decide) hns) tabb).grun callerA [] s₁ H ⟨[.ref a], []⟩ [.ref a] [.ref a] _ _ rfl hr e0 (hbind s₁ (.ref a)) (.cons rfl .nil) hsp
  refine codeAny_mono go ?_
  intro r s' h
  match r, h with
  | .error e, h =>
    obtain ⟨_, _, _, _, _, _, _, _, _, _, _, _, z⟩ := h
    exact z.elim
  | .ok (.ret u), h =>
    obtain ⟨v, H', os, bare, un, hok2, rel, q⟩ := h
    have ev : v = .bl true := q
    subst ev
    have eu : u = Value.bool true := rel
    subst eu
    have stays : ∀ b o, b ≠ D → s₁.heap.get? b = some o → s'.heap.get? b = some o := by
      intro b o hb e
      cases q : H b with
      | none => exact un.keep b o e q (fun z => absurd (show b ∈ ([] : List Addr) from z) List.not_mem_nil) List.not_mem_nil
      | some u =>
        rcases only b hb with z | ⟨ob, xs, z⟩
        · rw [q] at z
          cases z
        · obtain ⟨e1, _⟩ := hok b _ z
          obtain ⟨e2, _⟩ := hok2 b _ (un.frzs b ob _ z)
          rw [e] at e1
          cases e1
          exact e2
    obtain ⟨more, hm⟩ : ∃ more : Array Value, s'.heap.get? D = some { cls := .none, data := .fields more } := by
      obtain ⟨more, z⟩ := un.tbls D #[] hD
      exact ⟨_, hok2 D _ z⟩
    refine ⟨rfl, ⟨fun b o e => ?_, fun b o e => ?_⟩, os, bare⟩
    · by_cases hb : b = D
      · rw [hb] at e ⊢
        rw [hT] at e
        cases e
        exact .inr (.inl ⟨(cH.tab hT).isCodeTable, rfl, #[], more, rfl, by rw [Array.empty_append]; exact hm⟩)
      · exact .inl (stays b o hb e)
    · by_cases hb : b = D
      · rw [hb]
        exact ⟨_, hm⟩
      · exact ⟨o, stays b o hb e⟩
theorem law_byT (KX : K.In s₁.heap) (hns : s₁.heap.Ns mainGlobals mg) (hb : s₁.heap.Ns builtinsNs mb) (hbb : ∀ x : Str, x ≠ "__name__" → mb x = bootBuiltins x) (hlim : s₁.heap.NoLimit) (hg : s₁.gens = #[])
    (ha : s₁.heap.get? a = some { cls := .type "list", data := .seq vs.toArray }) (hi : IntsAre vs ns) (hl : ns.length ≤ sizeLine) (hr : Room k callerA) {mm : Str → Option Value} (hm : s₁.heap.Ns sysModules mm)
    (hT : s₁.heap.get? D = some { cls := .none, data := .fields #[] }) (nD : K.lookup D = none) (cH : PySem.W.CodeHd s₁.heap c D)
    (hbm : ∃ (bm : Addr) (ob : Obj), mg "__builtins__" = some (.ref bm) ∧ bm ≠ builtinsNs ∧ s₁.heap.get? bm = some ob ∧ ob.cls = .type "module" ∧ ob.dict = some builtinsNs ∧ ob.data = .plain)
    (F : ∀ base : Heap, K.In base → base.Ns mainGlobals mg → TabB base mg c D → Gk P w K mg base (L2.CX P w) k fa fd [x] sp) (hbind : ∀ (s : Shared) (u : Value), BindsTo s fd ⟨[u], []⟩ [(x, u)])
    (hsp : ∀ H : Hp, (∀ b, b ≠ D → H b = none ∨ ∃ ob u, H b = some (.frz ob u)) → H D = some (.tbl #[]) → SmOk K H → SqL K H a (ns.map V.int) → sp [.ref a] H (fun v _ => v = .bl true) fun _ _ _ => False) : codeAny (model P w) callerA (.call (.ref fa) ⟨[.ref a], []⟩) (LawEnd s₁) s₁ := by
  have rv := vals_ints hi
  have nDa : D ≠ a := fun z => by
    rw [z, ha] at hT
    cases hT
  have sq : ∃ us n, ({ cls := .type "list", data := .seq vs.toArray } : Obj).data = .seq us n := ⟨_, _, rfl⟩
  obtain ⟨om, es, ep, em, dm, _⟩ := hm
  have nas : a ≠ sysModules := fun z => by
    rw [z, em] at ha
    cases ha
    cases dm
  have nds : D ≠ sysModules := fun z => by
    rw [z, em] at hT
    cases hT
    cases dm
  let tb : HO := .tbl #[]
  let H0 : Hp := upd (sysH K om) D tb
  have at0 : H0 D = some (.tbl #[]) := upd_same
  have off0 : ∀ b, b ≠ D → H0 b = sysH K om b := fun b hb => upd_ne hb
  have onl0 : ∀ b, b ≠ D → H0 b = none ∨ ∃ ob u, H0 b = some (.frz ob u) := fun b hb => by
    rw [off0 b hb]
    cases q : sysH K om b with
    | none => exact .inl rfl
    | some u => exact .inr ⟨_, _, by rw [(sysH_some q).2.1]⟩
  have ok0 : ∀ b u, H0 b = some u → ObjOk P w H0 s₁.heap b u := fun b u z => by
    by_cases eb : b = D
    · subst eb
      rw [at0] at z
      cases z
      exact hT
    · rw [off0 b eb] at z
      obtain ⟨h1, h2, _⟩ := sysH_some z
      subst h1 h2
      exact ⟨em, _, em⟩
  have aps0 : sysH K om sysModules ≠ none → K.lookup sysModules = none := fun z => by
    cases q : sysH K om sysModules with
    | none => exact absurd q z
    | some u => exact (sysH_some q).2.2
  cases hk : K.lookup a with
  | some o =>
    have e := KX a o hk
    rw [ha] at e
    cases e
    have sl : SqL K H0 a (ns.map V.int) := .inr ⟨_, vs.toArray, _, hk, rfl, rfl, rfl, by rw [List.size_toArray, hi.length]; exact hl, by simpa using rv⟩
    exact law_fromT KX hns hb hbb hlim hg ha sq hr hT nD cH hbm F hbind H0 onl0 at0 ok0 (fun b hb nb z => absurd ((off0 b hb).trans (sysH_ne nb)) z) (fun z => absurd ((off0 a nDa.symm).trans (sysH_ne nas)) z) (fun z => aps0 (by rw [off0 _ nds.symm] at z; exact z)) em dm (hsp H0 onl0 at0 (sys_ok KX em dm (off0 _ nds.symm)) sl)
  | none =>
    let fz : HO := .frz { cls := .type "list", data := .seq vs.toArray } (.lst (ns.map V.int))
    let H1 : Hp := upd H0 a fz
    have at1 : H1 a = some fz := upd_same
    have off : ∀ b, b ≠ a → H1 b = H0 b := fun b hb => upd_ne hb
    have onl : ∀ b, b ≠ D → H1 b = none ∨ ∃ ob u, H1 b = some (.frz ob u) := fun b hb => by
      by_cases eb : b = a
      · exact .inr ⟨_, _, by rw [eb]; exact at1⟩
      · rw [off b eb]
        exact onl0 b hb
    have hD1 : H1 D = some (.tbl #[]) := (off D nDa).trans at0
    refine law_fromT KX hns hb hbb hlim hg ha sq hr hT nD cH hbm F hbind H1 onl hD1 (fun b u z => ?_) (fun b hb nb z => ?_) (fun _ => hk) (fun z => aps0 (by rw [off _ nas.symm, off0 _ nds.symm] at z; exact z)) em dm (hsp H1 onl hD1 (sys_ok KX em dm ((off _ nas.symm).trans (off0 _ nds.symm))) (.inl (.inr ⟨_, at1⟩)))
    · by_cases eb : b = a
      · subst eb
        rw [at1] at z
        cases z
        exact ⟨ha, by rw [List.length_map]; exact hl, vs, _, rv, ha⟩
      · rw [off b eb] at z
        by_cases eb2 : b = D
        · subst eb2
          rw [at0] at z
          cases z
          exact hT
        · rw [off0 b eb2] at z
          obtain ⟨h1, h2, _⟩ := sysH_some z
          subst h1 h2
          exact ⟨em, _, em⟩
    · by_cases eb : b = a
      · exact eb
      · exact absurd ((off b eb).trans ((off0 b hb).trans (sysH_ne nb))) z
end
/-- the goal that k_head leaves -/
theorem law_walkT {l : PySem.W.OpenLaw} {n k : Nat} {q : Program} {loose : List Str} {XP : (Str → Option Value) → Heap → Prop} {YP : World → Heap → Prop} {d : DefRec} {K : Params → PySem.W.Frag} {sp : PySem.W.Frag → Sp} {x : Str} {c D : Addr}
    (hn : l.most = some n) (hn2 : n ≤ sizeLine) (hdf : d.params.defaults = []) (hr : Room k callerA) (hY : ∀ (w : World) (h : Heap), YP w h → (K w.params).In h)
    (hYT : ∀ (w : World) (h : Heap), YP w h → h.get? D = some { cls := .none, data := .fields #[] }) (hcH : ∀ w : World, PySem.W.codeHdIn (K w.params) c D = true) (hnD : ∀ w : World, (K w.params).lookup D = none)
    (F : ∀ (w : World) (mg : Str → Option Value) (fa : Addr) (h : Heap), (K w.params).In h → h.Ns mainGlobals mg → mg d.name = some (.ref fa) →
      ∃ fd : FuncData, (∀ (s : Shared) (u : Value), BindsTo s fd ⟨[u], []⟩ [(x, u)]) ∧ ∀ base : Heap, (K w.params).In base → base.Ns mainGlobals mg → TabB base mg c D → Gk l.prog w (K w.params) mg base (L2.CX l.prog w) k fa fd [x] (sp (K w.params)))
    (hsp : ∀ (K : PySem.W.Frag) (H : Hp) (a : Addr) (ns : List Int), ns.length ≤ n → (∀ b, b ≠ D → H b = none ∨ ∃ ob u, H b = some (.frz ob u)) → H D = some (.tbl #[]) → SmOk K H → SqL K H a (ns.map V.int) → sp K [.ref a] H (fun v _ => v = .bl true) fun _ _ _ => False) (him : importsNone q = true := by decide +kernel) :
    PySem.W.WalkO q loose XP YP l.row.toRowW d [] (fun f vs => PySem.call f vs) := by
  refine Att.attach_call hn hdf ?_
  intro w s₀ s₁ mg mb fa o pm cd doc a vs ns G Y ho hd hcd hmg hobj hints hlen hg
  have KX := hY w _ Y
  obtain ⟨fd, hb, hF⟩ := F w mg fa _ KX G.T.g hmg
  have cH := PySem.W.codeHd_of_K KX (hcH w)
  have hT := hYT w _ Y
  exact law_byT KX G.T.g G.T.b G.T.builtins G.T.nolimit hg hobj hints (Nat.le_trans hlen hn2) hr (G.T.seer him).mods.choose_spec.1 hT (hnD w) cH G.T.bmain hF hb fun H h1 h2 h3 h4 => hsp _ H a ns hlen h1 h2 h3 h4
theorem spLaw_ofT {Fm : List Sv → M Sv} {most : Nat} {D : Addr} {q : Str} (h : ∀ ns : List Int, ns.length ≤ most → ∃ μ, Fm [.scr ns] [] = some (.ok (.dat (.bool true)) μ)) (hT : lamT = [(D, q)]) (K : PySem.W.Frag) (H : Hp) (a : Addr) (ns : List Int) (hl : ns.length ≤ most)
    (hO : ∀ b, b ≠ D → H b = none ∨ ∃ ob u, H b = some (.frz ob u)) (hD : H D = some (.tbl #[])) (hsm : SmOk K H) (hs : SqL K H a (ns.map V.int)) :
    spLaw Fm most K [.ref a] H (fun v _ => v = .bl true) fun _ _ _ => False := by
  obtain ⟨μ, e⟩ := h ns hl
  have hsame : Same (hideA H D) H := fun b o z => by
    by_cases hb : b = D
    · rw [hb, hide_self] at z
      cases z
    · rw [hide_ne hb] at z
      exact z
  have R : Rel K ⟨fun _ => 0, hideA H D⟩ H [] := ⟨hsame, fun i o e => by simp at e, fun i o e => by simp at e, fun i j o o' e => by simp at e, fun p hp => (by
    rw [hT] at hp
    rw [List.mem_singleton.mp hp]
    exact TabS.nil hD), hsm, fun b ps z => (by
    have z' : hideA H D b = some (.tbl ps) := z
    by_cases hb : b = D
    · rw [hb, hide_self] at z'
      cases z'
    · rw [hide_ne hb] at z'
      rcases hO b hb with q | ⟨_, _, q⟩
      · rw [q] at z'
        cases z'
      · rw [q] at z'
        cases z')⟩
  have hs' : SqL K (hideA H D) a (ns.map V.int) := by
    rcases hs with (h1 | ⟨o, h1⟩) | h1
    · have na : a ≠ D := fun z => by
        rw [z, hD] at h1
        cases h1
      exact .inl (.inl (by rw [hide_ne na]; exact h1))
    · have na : a ≠ D := fun z => by
        rw [z, hD] at h1
        cases h1
      exact .inl (.inr ⟨o, by rw [hide_ne na]; exact h1⟩)
    · exact .inr h1
  refine ⟨rfl, ⟨fun _ => 0, hideA H D⟩, [], [.scr ns], _, R, .cons ⟨a, rfl, hs'⟩ .nil, e, fun W' H' g R' v rv => ?_⟩
  cases rv
  rfl
/-- the law's own def, by its code object's address -/
theorem gk_stripC {P : Program} {w : World} {K : PySem.W.Frag} {mg : Str → Option Value} {base : Heap} {k : Nat} {f c : Addr} {fd : FuncData} {x qual : Str} {st : Stmt} {N ps : List Str} {n : Nat} {l : Nat} (F : Fun K x qual st f fd) (S : FnScope N ps (defScope st)) (hn : ps.length = n) (hl : N.length = l) (hc : fd.code = .ref c)
    (G : Rho → M Out) (body : ∀ (A : Around) (below : List Env) (s : Shared) (H : Hp) (E : XK), A.guards = some [] → Room k (bx P w K mg base N qual st f (.ref c) A below s H E).A → PSSX (bx P w K mg base N qual st f (.ref c) A below s H E) E (defBody st) G) :
    Gk P w K mg base (L2.CX P w) (k + 1) f fd ps (spM K n (strip l G)) := by
  refine gk_run F S (fun vs H Q E h => h.1.trans hn.symm) fun cdv hcd A below s H vs Q E hgd hr ⟨hvl, W, μ, ss, r, R, rs, e, q⟩ => ?_
  have ec : cdv = .ref c := hcd.symm.trans hc
  subst ec
  refine ⟨_, body A below s H E hgd hr, ?_⟩
  subst hl
  obtain ⟨r', e', q'⟩ := strip_ko (ρ := []) e q
  exact ⟨W, ini N.length ss, μ, r', ⟨R, ini_sl rs⟩, e', q'⟩
/-- the kit of the two classes -/
theorem kit_NoTable {K : PySem.W.Frag} {mg : Str → Option Value} {C f : Addr} (T : Err_NoTable.TL K mg C f) : Kit K C := fun x ox od => by
  refine PySem.W.kitx_exc ?_ T.f_get T.f_at T.sub T.f_cls T.s_get T.tk T.mro
  obtain ⟨cd, hc, _⟩ := PySem.W.any_some T.dct
  rw [hc]
  rfl
end Pf

set_option maxHeartbeats 1000000
namespace Pf
open PySem PySem.Spec PyProof.Rows L2
def S.told (C w : Str) (t : S PyData) : S PyData := fun k => match t k with
  | some (.ok v, k') => some (.ok (.list [.str "result", v]), k')
  | some (.ex ⟨c, some (g, s)⟩, k') => if c = C ∧ g = "pair" then some (.ok (.list [.str w, s]), k') else none
  | _ => none
theorem S.told_ret (C w : Str) (v : PyData) : S.told C w (S.ret v) = S.ret (.list [.str "result", v]) := by
  funext k
  rfl
theorem S.told_thr (C w : Str) (v : PyData) : S.told C w (S.thr ⟨C, some ("pair", v)⟩) = S.ret (.list [.str w, v]) := by
  funext k
  exact if_pos ⟨rfl, rfl⟩
/-- no list that may be written is known -/
def noMt : En → Bool
  | [] => true
  | some (.mt _) :: _ => false
  | _ :: l => noMt l
theorem noMt_at : ∀ {l : En} {i : Nat} {ds : List PyData}, noMt l = true → l[i]? = some (some (.mt ds)) → False
  | [], _, _, _, e => by simp at e
  | some (.mt _) :: _, _, _, h, _ => by cases h
  | none :: l, 0, _, _, e => by simp at e
  | some (.im _) :: l, 0, _, _, e => by simp at e
  | some .dk :: l, 0, _, _, e => by simp at e
  | none :: l, i + 1, _, h, e => noMt_at (l := l) (i := i) h (by simpa using e)
  | some (.im _) :: l, i + 1, _, h, e => noMt_at (l := l) (i := i) h (by simpa using e)
  | some .dk :: l, i + 1, _, h, e => noMt_at (l := l) (i := i) h (by simpa using e)
theorem EnvR.again {l : En} {k k' : Dk} {rest g : Mu} {ρ : Rho} {μ : Mu} (e : EnvR l k rest ρ μ) (hl : noMt l = true) : EnvR l k' rest ρ (dkO k' ++ rest ++ g) := by
  refine ⟨⟨g, rfl⟩, e.len, fun i x h => ?_, e.inj⟩
  obtain ⟨s, h1, h2⟩ := e.at_ i x h
  refine ⟨s, h1, ?_⟩
  cases x with
  | im d => exact h2
  | dk => exact h2
  | mt ds => exact (noMt_at hl h).elim
section
variable {l l1 : En} {F : Rho → M Sv} {Fs : Rho → M (List Sv)} {t : S PyData} {ts : S (List PyData)} {C w : Str}
theorem e_told (h : Jd l F t (pV l)) (hl : noMt l = true := by rfl) : Jd l (toldV C w F) (S.told C w t) (pV l) := fun k rest ρ μ e => by
  intro r k' q
  unfold S.told at q
  cases et : t k with
  | none =>
    rw [et] at q
    cases q
  | some y =>
    rw [et] at q
    obtain ⟨y, k1⟩ := y
    cases y with
    | ok v =>
      cases q
      obtain ⟨a, μ', h1, h2⟩ := h k rest ρ μ e _ _ et
      obtain ⟨rfl, h3⟩ := h2
      refine ⟨_, μ', ?_, rfl, h3⟩
      unfold toldV
      rw [h1]
      rfl
    | ex c =>
      obtain ⟨c, fld⟩ := c
      cases fld with
      | none => cases q
      | some gs =>
        obtain ⟨g, s⟩ := gs
        dsimp only at q
        split at q
        · rename_i cg
          cases q
          obtain ⟨g1, h1⟩ := h k rest ρ μ e _ _ et
          refine ⟨.dat (.list [.str w, s]), dkO k' ++ rest ++ g1, ?_, rfl, e.again hl⟩
          unfold toldV
          rw [h1]
          show (if c = C ∧ g = ("pair" : Str) then _ else _) = _
          rw [if_pos cg]
          rfl
        · cases q
end
end Pf

set_option maxHeartbeats 1000000
namespace Pf
open PySem PySem.Spec PyProof.Rows L2
/-! ### zip of any number of tuples and lists, the tuple being held by a name -/
structure ZN (prog : Program) (w : World) (A : Around) (z TI TO : Addr) (js : List Addr) (fp : Nat → List Addr) (P : Nat → Value → Prop) (St St' : Nat → Heap → Prop) : Prop where
  item : ∀ k j, js[k]? = some j → ∀ (s : Shared) (Q E : Value → Shared → Prop), St k s.heap → (∀ x h' tk, P k x → St' k h' → Heap.SameBut j s.heap h' → Q x { heap := h', gens := s.gens, drawn := s.drawn, toks := tk, os := s.os }) → wpAny (model prog w) A (Builtin.SmallTypes.nextOf (.ref j)) Q E s
  keep : ∀ k h h', St k h → (∀ b ∈ fp k, ∀ o, h.get? b = some o → h'.get? b = some o) → St k h'
  keep' : ∀ k h h', St' k h → (∀ b ∈ fp k, ∀ o, h.get? b = some o → h'.get? b = some o) → St' k h'
  zf : ∀ k, z ∉ fp k
  Tf : ∀ k, TO ∉ fp k
  jf : ∀ k l j, js[l]? = some j → l ≠ k → j ∉ fp k
  TIz : TI ≠ z
  TITO : TI ≠ TO
  TIj : TI ∉ js
  TOz : TO ≠ z
  zj : z ∉ js
  TOj : TO ∉ js
structure Zm (js : List Addr) (St St' : Nat → Heap → Prop) (z TO : Addr) (m : Nat) (s0 s : Shared) : Prop where
  lo : ∀ k, k < m → k < js.length → St' k s.heap
  hi : ∀ k, m ≤ k → k < js.length → St k s.heap
  sz : s.heap.objs.size = s0.heap.objs.size
  fr : ∀ c, c ≠ z → c ≠ TO → c ∉ js → s.heap.get? c = s0.heap.get? c
  gn : s.gens = s0.gens
  dr : s.drawn = s0.drawn
  os : s.os = s0.os
section
variable {prog : Program} {w : World} {A : Around} {z TI TO : Addr} {js : List Addr} {fp : Nat → List Addr} {P : Nat → Value → Prop} {St St' : Nat → Heap → Prop}
theorem Zm.draw (Z : ZN prog w A z TI TO js fp P St St') {m : Nat} {j : Addr} (hj : js[m]? = some j) {s0 s : Shared} (M : Zm js St St' z TO m s0 s) {h' : Heap} {tk : Nat} (h1 : St' m h') (h2 : Heap.SameBut j s.heap h') : Zm js St St' z TO (m + 1) s0 { heap := h', gens := s.gens, drawn := s.drawn, toks := tk, os := s.os } := by
  have hm : j ∈ js := List.mem_of_getElem? hj
  refine ⟨fun k hk hl => ?_, fun k hk hl => ?_, h2.1.trans M.sz, fun c c1 c2 c3 => (h2.2 c fun q => c3 (q ▸ hm)).trans (M.fr c c1 c2 c3), M.gn, M.dr, M.os⟩
  · by_cases q : k = m
    · exact q ▸ h1
    · exact Z.keep' k _ _ (M.lo k (by omega) hl) fun b hb o e => (h2.2 b fun q' => Z.jf k m j hj (Ne.symm q) (q' ▸ hb)).trans e
  · exact Z.keep k _ _ (M.hi k (by omega) hl) fun b hb o e => (h2.2 b fun q' => Z.jf k m j hj (by omega) (q' ▸ hb)).trans e
/-- a change of z or of the owned tuple -/
theorem Zm.side (Z : ZN prog w A z TI TO js fp P St St') {m : Nat} {s0 s : Shared} (M : Zm js St St' z TO m s0 s) {h' : Heap} {tk : Nat} {b : Addr} (hb : b = z ∨ b = TO) (h2 : Heap.SameBut b s.heap h') : Zm js St St' z TO m s0 { heap := h', gens := s.gens, drawn := s.drawn, toks := tk, os := s.os } := by
  refine ⟨fun k hk hl => Z.keep' k _ _ (M.lo k hk hl) fun c hc o e => (h2.2 c fun q => ?_).trans e, fun k hk hl => Z.keep k _ _ (M.hi k hk hl) fun c hc o e => (h2.2 c fun q => ?_).trans e, h2.1.trans M.sz, fun c c1 c2 c3 => (h2.2 c fun q => ?_).trans (M.fr c c1 c2 c3), M.gn, M.dr, M.os⟩
  · rcases hb with rfl | rfl
    · exact Z.zf k (q ▸ hc)
    · exact Z.Tf k (q ▸ hc)
  · rcases hb with rfl | rfl
    · exact Z.zf k (q ▸ hc)
    · exact Z.Tf k (q ▸ hc)
  · rcases hb with rfl | rfl
    · exact c1 q
    · exact c2 q
def zObj (f0 : Value) (f : Bool) (TI TO : Addr) : Obj := { cls := .type "zip", data := .fields #[f0, .bool f, .bool false, .ref TI, .ref TO] }
def tObj (vs : List Value) : Obj := { cls := .type "tuple", data := .seq vs.toArray }
theorem zipFree {s : Shared} {f0 : Value} {f : Bool} (hz : s.heap.get? z = some (zObj f0 f TI TO)) (hf : f0 = .none ∨ ∃ T : Addr, f0 = rawInt T) {K : Bool → Shared → Prop} {E : Value → Shared → Prop} (h1 : K true s)
    (h2 : ∀ h', h'.get? z = some (zObj f0 true TI TO) → Heap.SameBut z s.heap h' → K false { heap := h', gens := s.gens, drawn := s.drawn, toks := s.toks, os := s.os }) : wpAny (model prog w) A (Builtin.SmallTypes.ownedTupleIsFree (.ref z)) K E s := by
  unfold Builtin.SmallTypes.ownedTupleIsFree
  refine wpAny_bind (wpAny_field hz rfl rfl ?_)
  rcases hf with rfl | ⟨T, rfl⟩
  · exact wpAny_pure h1
  · refine wpAny_bind ?_
    show wpAny _ _ (Sem.loadIfAlive T Sem.pure) _ _ _
    intro Γ p hΓ
    rw [Sem.wp_loadIfAlive]
    revert Γ p hΓ
    show wpAny (model prog w) A (pure (s.heap.get? T)) _ E s
    refine wpAny_pure ?_
    cases hT : s.heap.get? T with
    | none => exact wpAny_pure h1
    | some o =>
      show wpAny _ _ (field (Value.ref z) 1 >>= _) _ _ _
      refine wpAny_bind (wpAny_field hz rfl rfl ?_)
      cases f with
      | true =>
        exact wpAny_pure (h2 s.heap hz ⟨rfl, fun _ _ => rfl⟩)
      | false =>
        show wpAny _ _ (setField (Value.ref z) 1 (Value.bool true) >>= _) _ _ _
        refine wpAny_bind (wpAny_setField_rec hz (by show 1 < 5; decide) fun h' e1 e2 => ?_)
        exact wpAny_pure (h2 h' e1 e2)
theorem zipN_next (Z : ZN prog w A z TI TO js fp P St St') {s : Shared} {f0 : Value} {f : Bool} {os : List Value} (hz : s.heap.get? z = some (zObj f0 f TI TO)) (hf : f0 = .none ∨ ∃ T : Addr, f0 = rawInt T)
    (hTI : s.heap.get? TI = some (tObj (js.map .ref))) (hTO : s.heap.get? TO = some (tObj os)) (hos : os.length = js.length) (hst : ∀ k, k < js.length → St k s.heap) (hne : js ≠ []) (hsz : js.length ≤ 1000) {E : Value → Shared → Prop} {Q : Value → Shared → Prop}
    (hQ : ∀ (vals os' : List Value) (h' : Heap) (tk : Nat) (f0' : Value) (f' : Bool), (f0' = .none ∨ ∃ T : Addr, f0' = rawInt T) → vals.length = js.length → os'.length = js.length → (∀ k x, vals[k]? = some x → P k x) → (∀ k, k < js.length → St' k h') → h'.get? z = some (zObj f0' f' TI TO) → h'.get? TO = some (tObj os') → h'.get? s.heap.objs.size = some (tObj vals) → h'.objs.size = s.heap.objs.size + 1 → (∀ c o, c ≠ z → c ≠ TO → c ∉ js → s.heap.get? c = some o → h'.get? c = some o) → Q (.ref s.heap.objs.size) { heap := h', gens := s.gens, drawn := s.drawn, toks := tk, os := s.os }) :
    wpAny (model prog w) A (Builtin.«zip.__next__» { pos := [.ref z] }) (fun fin s' => ∃ v, fin = Fin.done (Flow.ret v) ∧ Q v s') E s := by
  unfold Builtin.«zip.__next__»
  refine wpAny_bind ?_
  show wpAny _ _ (pure (Value.ref z, [])) _ _ _
  refine wpAny_pure ?_
  refine wpAny_bind (wpAny_field hz rfl rfl ?_)
  refine wpAny_bind (wpAny_field hz rfl rfl ?_)
  refine wpAny_bind (wpAny_seqItems hTI rfl ?_)
  obtain ⟨j0, jr, rfl⟩ : ∃ j0 jr, js = j0 :: jr := match js, hne with | j0 :: jr, _ => ⟨j0, jr, rfl⟩
  refine wpAny_bind (zipFree hz hf ?own fun h1 z1 k1 => ?held)
  case held =>
    have M0 : Zm (j0 :: jr) St St' z TO 0 s s := ⟨fun k hk => absurd hk (Nat.not_lt_zero k), fun k _ hk => hst k hk, rfl, fun _ _ _ _ => rfl, rfl, rfl, rfl⟩
    have M1 := M0.side Z (tk := s.toks) (.inl rfl) k1
    have t1 : h1.get? TO = some (tObj os) := (k1.2 TO Z.TOz).trans hTO
    refine wpAny_bind (wpAny_forIn_array' _ (fun (rest : List Value) (b : Option PySem.Fin × Array Value) s' => ∃ m : Nat, b.1 = none ∧ m ≤ (j0 :: jr).length ∧ rest = ((j0 :: jr).drop m).map Value.ref ∧ b.2.size = m ∧ (∀ k x, b.2[k]? = some x → P k x) ∧ Zm (j0 :: jr) St St' z TO m s s' ∧ s'.heap.get? z = some (zObj f0 true TI TO) ∧ s'.heap.get? TO = some (tObj os)) _ (fun it rest b s' h => ?_) (fun b s' h => ?_) _ _ ⟨0, rfl, Nat.zero_le _, by simp, rfl, fun k x e => by simp at e, M1, z1, t1⟩)
    · obtain ⟨m, b1, hm, hr, hs, hp, M, z2, t2⟩ := h
      have hj : ∃ j, (j0 :: jr)[m]? = some j ∧ it = .ref j ∧ rest = ((j0 :: jr).drop (m + 1)).map Value.ref := by
        by_cases q : m < (j0 :: jr).length
        · rw [List.drop_eq_getElem_cons q, List.map_cons] at hr
          injection hr with r1 r2
          exact ⟨_, List.getElem?_eq_getElem q, r1, r2⟩
        · rw [List.drop_eq_nil_of_le (by omega)] at hr
          cases hr
      obtain ⟨j, ej, rfl, er⟩ := hj
      have hml : m < (j0 :: jr).length := (List.getElem?_eq_some_iff.mp ej).1
      have hjz : j ≠ z := fun q => Z.zj (q ▸ List.mem_of_getElem? ej)
      have hjT : j ≠ TO := fun q => Z.TOj (q ▸ List.mem_of_getElem? ej)
      refine wpAny_bind (wpAny_holding ?_)
      show wpAny _ _ (Builtin.SmallTypes.nextOf (Value.ref j) >>= fun x => pure (some x)) _ _ _
      refine wpAny_bind (Z.item m j ej _ _ _ (M.hi m (Nat.le_refl _) hml) fun x h' tk px st' sb => ?_)
      refine wpAny_pure (wpAny_pure ?_)
      refine ⟨m + 1, rfl, hml, er, by show (b.2.push x).size = _; rw [Array.size_push, hs], fun k y e => ?_, M.draw Z ej st' sb, (sb.2 z (Ne.symm hjz)).trans z2, (sb.2 TO (Ne.symm hjT)).trans t2⟩
      have e : (b.2.push x)[k]? = some y := e
      rw [Array.getElem?_push] at e
      split at e
      · rename_i q
        cases e
        rw [q, hs]
        exact px
      · exact hp k y e
    · obtain ⟨m, b1, hm, hr, hs, hp, M, z2, t2⟩ := h
      obtain ⟨b1', items⟩ := b
      cases b1
      have hml : m = (j0 :: jr).length := by
        by_cases q : m < (j0 :: jr).length
        · rw [List.drop_eq_getElem_cons q] at hr
          cases hr
        · omega
      subst hml
      show wpAny _ _ (newTuple items.toList >>= fun v => ret v) _ _ _
      have zlt := Heap.lt_size z2
      have tlt := Heap.lt_size t2
      refine wpAny_bind (wpAny_newTuple (wpAny_pure ⟨_, rfl, ?_⟩) (by show items.toList.length ≤ _; rw [Array.length_toList, hs]; exact Nat.le_trans hsz (by decide)))
      have push : ∀ c o, s'.heap.get? c = some o → (s'.heap.push { cls := Value.type "tuple", data := Data.seq items.toList.toArray }).get? c = some o := fun c o e => Heap.get?_push_of_some _ e
      rw [M.gn, M.dr, M.os, M.sz]
      refine hQ items.toList os _ _ f0 true hf (by rw [Array.length_toList, hs]) hos (fun k x e => hp k x (by simpa using e)) (fun k hk => Z.keep' k _ _ (M.lo k hk hk) fun b _ o e => push b o e) (push _ _ z2) (push _ _ t2) ?_ ?_ fun c o c1 c2 c3 e => push c o ((M.fr c c1 c2 c3).trans e)
      · rw [← M.sz]
        exact Heap.get?_push_size _ rfl
      · rw [← M.sz]
        exact Array.size_push _
  case own =>
    refine wpAny_bind (wpAny_rule ?_)
    refine wpAny_bind (wpAny_field hz rfl rfl ?_)
    refine wpAny_bind (wpAny_setField_rec hz (by show 0 < 5; decide) fun h1 z1 k1 => ?_)
    have M0 : Zm (j0 :: jr) St St' z TO 0 s s := ⟨fun k hk => absurd hk (Nat.not_lt_zero k), fun k _ hk => hst k hk, rfl, fun _ _ _ _ => rfl, rfl, rfl, rfl⟩
    have M1 := M0.side Z (tk := s.toks) (.inl rfl) k1
    have z1 : h1.get? z = some (zObj .ellipsis f TI TO) := z1
    have t1 : h1.get? TO = some (tObj os) := (k1.2 TO Z.TOz).trans hTO
    refine wpAny_bind (wpAny_forIn_list _ (fun (rest : List (Value × Nat)) (b : Option PySem.Fin × Unit) s' => ∃ (m : Nat) (os' : List Value), b.1 = none ∧ m ≤ (j0 :: jr).length ∧ rest = (((j0 :: jr).map Value.ref).zipIdx).drop m ∧ os'.length = (j0 :: jr).length ∧ (∀ k x, k < m → os'[k]? = some x → P k x) ∧ Zm (j0 :: jr) St St' z TO m s s' ∧ s'.heap.get? z = some (zObj .ellipsis f TI TO) ∧ s'.heap.get? TO = some (tObj os')) _ (fun it rest b s' h => ?_) (fun b s' h => ?_) _ _ ⟨0, os, rfl, Nat.zero_le _, by simp, hos, fun k x e => absurd e (Nat.not_lt_zero k), M1, z1, t1⟩)
    · obtain ⟨m, os', b1, hm, hr, hs, hp, M, z2, t2⟩ := h
      have hj : ∃ j, (j0 :: jr)[m]? = some j ∧ it = (.ref j, m) ∧ rest = (((j0 :: jr).map Value.ref).zipIdx).drop (m + 1) := by
        by_cases q : m < (j0 :: jr).length
        · rw [List.drop_eq_getElem_cons (by rw [List.length_zipIdx, List.length_map]; exact q)] at hr
          injection hr with r1 r2
          exact ⟨_, List.getElem?_eq_getElem q, by rw [r1, List.getElem_zipIdx, List.getElem_map, Nat.zero_add], r2⟩
        · rw [List.drop_eq_nil_of_le (by rw [List.length_zipIdx, List.length_map]; omega)] at hr
          cases hr
      obtain ⟨j, ej, rfl, er⟩ := hj
      have hml : m < (j0 :: jr).length := (List.getElem?_eq_some_iff.mp ej).1
      have hjz : j ≠ z := fun q => Z.zj (q ▸ List.mem_of_getElem? ej)
      have hjT : j ≠ TO := fun q => Z.TOj (q ▸ List.mem_of_getElem? ej)
      refine wpAny_bind (wpAny_onRaise ?_)
      show wpAny _ _ (Builtin.SmallTypes.nextOf (Value.ref j) >>= fun x => pure (some x)) _ _ _
      refine wpAny_bind (Z.item m j ej _ _ _ (M.hi m (Nat.le_refl _) hml) fun x h' tk px st' sb => ?_)
      have z3 := (sb.2 z (Ne.symm hjz)).trans z2
      have t3 := (sb.2 TO (Ne.symm hjT)).trans t2
      have M3 := M.draw Z (tk := tk) ej st' sb
      refine wpAny_pure (wpAny_bind (wpAny_seqItems t3 rfl (wpAny_bind (wpAny_updateSeq t3 rfl (wpAny_bind (wpAny_letGo (wpAny_pure ?_))) ?_ ?_))))
      · refine ⟨m + 1, os'.set m x, rfl, hml, er, by rw [List.length_set, hs], fun k y hk e => ?_, M3.side Z (.inr rfl) (Heap.SameBut.update ..), ((Heap.SameBut.update _ _ _).2 z (Ne.symm Z.TOz)).trans z3, ?_⟩
        · rw [List.getElem?_set] at e
          split at e
          · rename_i q
            split at e
            · cases e
              exact q ▸ px
            · cases e
          · rename_i q
            exact hp k y (by omega) e
        · refine (Heap.get?_update_self _ t3 rfl).trans ?_
          show some ({ cls := .type "tuple", data := .seq (os'.toArray.setIfInBounds m x) (if ((os'.toArray.setIfInBounds m x).size == os'.toArray.size) = true then 0 else 0 + 1) } : Obj) = _
          rw [Array.size_setIfInBounds, if_pos (beq_self_eq_true _), List.setIfInBounds_toArray]
          rfl
      · show os'.toArray.size ≤ _
        rw [List.size_toArray, hs]
        exact Nat.le_trans hsz (by decide)
      · show (os'.toArray.setIfInBounds m x).size ≤ _
        rw [Array.size_setIfInBounds, List.size_toArray, hs]
        exact Nat.le_trans hsz (by decide)
    · obtain ⟨m, os', b1, hm, hr, hs, hp, M, z2, t2⟩ := h
      obtain ⟨b1', u⟩ := b
      cases b1
      have hml : m = (j0 :: jr).length := by
        by_cases q : m < (j0 :: jr).length
        · rw [List.drop_eq_getElem_cons (by rw [List.length_zipIdx, List.length_map]; exact q)] at hr
          cases hr
        · omega
      subst hml
      have zlt := Heap.lt_size z2
      have tlt := Heap.lt_size t2
      have push : ∀ c o, s'.heap.get? c = some o → (s'.heap.push (tObj os')).get? c = some o := fun c o e => Heap.get?_push_of_some _ e
      show wpAny _ _ (seqItems? (Value.ref TO) >>= _) _ _ _
      refine wpAny_bind (wpAny_seqItems t2 rfl (wpAny_bind (wpAny_newTuple (wpAny_bind ?_) (by show os'.length ≤ _; rw [hs]; exact Nat.le_trans hsz (by decide)))))
      have ep : ({ cls := Value.type "tuple", data := Data.seq os'.toArray.toList.toArray } : Obj) = tObj os' := rfl
      rw [ep]
      show wpAny _ _ (setField (Value.ref z) 0 (rawInt s'.heap.objs.size) >>= fun _ => setField (Value.ref z) 1 (Value.bool false)) _ _ _
      refine wpAny_bind (wpAny_setField_rec (push _ _ z2) (by show 0 < 5; decide) fun h4 z4 k4 => ?_)
      refine wpAny_setField_rec z4 (by show 1 < 5; decide) fun h5 z5 k5 => wpAny_pure ⟨_, rfl, ?_⟩
      have k6 : ∀ c o, c ≠ z → s'.heap.get? c = some o → h5.get? c = some o := fun c o c1 e => (k5.2 c c1).trans ((k4.2 c c1).trans (push c o e))
      show Q (Value.ref s'.heap.objs.size) { heap := h5, gens := s'.gens, drawn := s'.drawn, toks := s'.toks, os := s'.os }
      rw [M.gn, M.dr, M.os, M.sz]
      refine hQ os' os' h5 _ (rawInt s'.heap.objs.size) false (.inr ⟨_, rfl⟩) hs hs (fun k x e => hp k x (by rw [← hs]; exact (List.getElem?_eq_some_iff.mp e).1) e) (fun k hk => Z.keep' k _ _ (M.lo k hk hk) fun b hb o e => k6 b o (fun q => Z.zf k (q ▸ hb)) e) z5 (k6 _ _ Z.TOz t2) ?_ ?_ fun c o c1 c2 c3 e => k6 c o c1 ((M.fr c c1 c2 c3).trans e)
      · rw [← M.sz]
        refine (k5.2 _ (Nat.ne_of_gt zlt)).trans ((k4.2 _ (Nat.ne_of_gt zlt)).trans ?_)
        exact Heap.get?_push_size _ rfl
      · rw [← M.sz, k5.1, k4.1]
        exact Array.size_push _
theorem zipN_stop {j0 : Addr} {jr : List Addr} {f0 : Value} {f : Bool} {os : List Value} {s : Shared} (hz : s.heap.get? z = some (zObj f0 f TI TO)) (hf : f0 = .none ∨ ∃ T : Addr, f0 = rawInt T)
    (hTI : s.heap.get? TI = some (tObj ((j0 :: jr).map .ref))) (hTO : s.heap.get? TO = some (tObj os)) (hzj : z ≠ j0) {S0 : Heap → Prop} (h0 : S0 s.heap) (hk : ∀ h, Heap.SameBut z s.heap h → S0 h)
    (hd : ∀ (s : Shared) (Q E : Value → Shared → Prop), S0 s.heap → (∀ h' e, Heap.ExtBut j0 s.heap h' → (∃ o, h'.get? e = some o ∧ o.cls = .type "StopIteration") → E (.ref e) { heap := h', gens := s.gens, drawn := s.drawn, toks := s.toks, os := s.os }) → wpAny (model prog w) A (Builtin.SmallTypes.nextOf (.ref j0)) Q E s)
    {E : Value → Shared → Prop} {Q : PySem.Fin → Shared → Prop}
    (hQ : ∀ h' e, (∀ c o, c ≠ z → c ≠ j0 → s.heap.get? c = some o → h'.get? c = some o) → (∃ o, h'.get? e = some o ∧ o.cls = .type "StopIteration") → E (.ref e) { heap := h', gens := s.gens, drawn := s.drawn, toks := s.toks, os := s.os }) :
    wpAny (model prog w) A (Builtin.«zip.__next__» { pos := [.ref z] }) Q E s := by
  unfold Builtin.«zip.__next__»
  refine wpAny_bind ?_
  show wpAny _ _ (pure (Value.ref z, [])) _ _ _
  refine wpAny_pure ?_
  refine wpAny_bind (wpAny_field hz rfl rfl ?_)
  refine wpAny_bind (wpAny_field hz rfl rfl ?_)
  refine wpAny_bind (wpAny_seqItems hTI rfl ?_)
  refine wpAny_bind (zipFree hz hf ?own fun h1 z1 k1 => ?held)
  case held =>
    have a1 := hk h1 k1
    refine wpAny_bind (wpAny_forIn_array' _ (fun (rest : List Value) (b : Option PySem.Fin × Array Value) s' => rest = (j0 :: jr).map Value.ref ∧ s' = { heap := h1, gens := s.gens, drawn := s.drawn, toks := s.toks, os := s.os }) _ (fun it rest b s' h => ?_) (fun b s' h => ?_) _ _ ⟨rfl, rfl⟩)
    · obtain ⟨hr, rfl⟩ := h
      injection hr with r1 r2
      subst r1
      refine wpAny_bind (wpAny_holding ?_)
      show wpAny _ _ (Builtin.SmallTypes.nextOf (Value.ref j0) >>= fun x => pure (some x)) _ _ _
      refine wpAny_bind (hd _ _ _ a1 fun h' e x1 x2 => hQ h' e (fun c o c1 c2 q => x1 c o c2 ((k1.2 c c1).trans q)) x2)
    · cases h.1
  case own =>
    refine wpAny_bind (wpAny_rule ?_)
    refine wpAny_bind (wpAny_field hz rfl rfl ?_)
    refine wpAny_bind (wpAny_setField_rec hz (by show 0 < 5; decide) fun h1 z1 k1 => ?_)
    have a1 := hk h1 k1
    refine wpAny_bind (wpAny_forIn_list _ (fun (rest : List (Value × Nat)) (b : Option PySem.Fin × Unit) s' => rest = ((j0 :: jr).map Value.ref).zipIdx ∧ s' = { heap := h1, gens := s.gens, drawn := s.drawn, toks := s.toks, os := s.os }) _ (fun it rest b s' h => ?_) (fun b s' h => ?_) _ _ ⟨rfl, rfl⟩)
    · obtain ⟨hr, rfl⟩ := h
      injection hr with r1 r2
      subst r1
      refine wpAny_bind (wpAny_onRaise ?_)
      show wpAny _ _ (Builtin.SmallTypes.nextOf (Value.ref j0) >>= fun x => pure (some x)) _ _ _
      refine wpAny_bind (hd _ _ _ a1 fun h' e x1 x2 => ?_)
      have z2 := x1 z _ hzj z1
      refine wpAny_setField_rec z2 (by show 0 < 5; decide) fun h2 z3 k3 => ?_
      obtain ⟨o, y1, y2⟩ := x2
      by_cases q : e = z
      · subst q
        have w := Option.some.inj (z2.symm.trans y1)
        rw [← w] at y2
        have y3 : Value.type "zip" = Value.type "StopIteration" := y2
        injection y3 with y4
        exact absurd y4 (by decide)
      · exact hQ h2 e (fun c o c1 c2 q => (k3.2 c c1).trans (x1 c o c2 ((k1.2 c c1).trans q))) ⟨o, (k3.2 e q).trans y1, y2⟩
    · cases h.1
theorem iterN {s : Shared} {f0 : Value} {f : Bool} {E : Value → Shared → Prop} {Q : Value → Shared → Prop} (hz : s.heap.get? z = some (zObj f0 f TI TO)) (hq : Q (.ref z) s) : wpAny (model prog w) A (pyIter (.ref z)) Q E s := by
  have ty : s.TypeIs (.ref z) "zip" := ⟨_, hz, rfl⟩
  refine wpAny_pyIter_slot (T := "zip") (id := "zip.__iter__") ty F.slot_zip_iter (wpAny_call_entry F.slot_zip_iter ty F.entry_zip_iter ?_)
  unfold Builtin.«dict_keyiterator.__iter__»
  refine wpAny_bind ?_
  show wpAny _ _ (pure (Value.ref z, [])) _ _ _
  exact wpAny_pure (wpAny_pure ⟨_, rfl, "zip", _, ty, F.slot_zip_next.1, hq⟩)
end
/-! ### the walk -/
/-- tuples of the items at the addresses cs -/
def ItzN (K : PySem.W.Frag) (cs : List (Bool × Addr)) : It :=
  ⟨fun i H => ∀ c ∈ cs, ∃ xs x, SqG c.1 K H c.2 xs ∧ xs[i]? = some x,
    fun i H v H' => ∃ T xs, v = .ref T ∧ H T = none ∧ H' = upd H T (.tup xs) ∧ xs.length = cs.length ∧ ∀ (k : Nat) (c : Bool × Addr) (x : V), cs[k]? = some c → xs[k]? = some x → ∀ ys, SqG c.1 K H c.2 ys → ys[i]? = some x,
    fun i H => ∃ c0 cr xs, cs = c0 :: cr ∧ SqG c0.1 K H c0.2 xs ∧ xs.length ≤ i⟩
structure ZApart (z TI TO : Addr) (js : List Addr) (cs : List (Bool × Addr)) : Prop where
  len : js.length = cs.length
  ne : js ≠ []
  sz : js.length ≤ 1000
  nd : ∀ (k l : Nat) (j : Addr), js[k]? = some j → js[l]? = some j → k = l
  TIz : TI ≠ z
  TITO : TI ≠ TO
  TIj : TI ∉ js
  TOz : TO ≠ z
  zj : z ∉ js
  TOj : TO ∉ js
  cz : ∀ c ∈ cs, c.2 ≠ z ∧ c.2 ≠ TI ∧ c.2 ≠ TO ∧ c.2 ∉ js
def ZSt (cs : List (Bool × Addr)) (js : List Addr) (i : Nat) (R : Nat → Value → Prop) (k : Nat) (h : Heap) : Prop := ∃ c j its, cs[k]? = some c ∧ js[k]? = some j ∧ ItG c.1 h j c.2 i ∧ HpG c.1 h c.2 its ∧ ∃ v, its[i]? = some v ∧ R k v
def ZSt' (cs : List (Bool × Addr)) (js : List Addr) (i : Nat) (k : Nat) (h : Heap) : Prop := ∃ c j, cs[k]? = some c ∧ js[k]? = some j ∧ ItG c.1 h j c.2 i
def zfp (cs : List (Bool × Addr)) (js : List Addr) (k : Nat) : List Addr := match cs[k]?, js[k]? with
  | some c, some j => [j, c.2]
  | _, _ => []
theorem zfp_mem {cs : List (Bool × Addr)} {js : List Addr} {k : Nat} {b : Addr} (h : b ∈ zfp cs js k) : ∃ c j, cs[k]? = some c ∧ js[k]? = some j ∧ (b = j ∨ b = c.2) := by
  unfold zfp at h
  split at h
  · rename_i c j e1 e2
    exact ⟨c, j, e1, e2, by simpa using h⟩
  · cases h
theorem HpG.carry {b : Bool} {h h' : Heap} {a : Addr} {its : Array Value} (x : HpG b h a its) (k : ∀ o, h.get? a = some o → h'.get? a = some o) : HpG b h' a its := by
  cases b with
  | true => exact Heap.IsTuple.at x k
  | false => exact Heap.IsList.at x k
theorem zn_of {prog : Program} {w : World} {A : Around} (hh : A.handled = none) {z TI TO : Addr} {js : List Addr} {cs : List (Bool × Addr)} (D : ZApart z TI TO js cs) (i : Nat) (R : Nat → Value → Prop) :
    ZN prog w A z TI TO js (zfp cs js) R (ZSt cs js i R) (ZSt' cs js (i + 1)) where
  item := fun k j hj s Q E ⟨c, j', its, e1, e2, e3, e4, v, e5, e6⟩ hq => by
    cases hj.symm.trans e2
    have hcj : c.2 ≠ j := fun q => (D.cz c (List.mem_of_getElem? e1)).2.2.2 (q ▸ List.mem_of_getElem? hj)
    have hi : i < its.size := (Array.getElem?_eq_some_iff.mp e5).1
    refine (drawG c.1 hh j c.2 hcj its).item i s Q E hi ⟨e3, e4⟩ fun x h' tk px st sb => hq x h' tk ?_ ⟨c, j, e1, hj, st.1⟩ sb
    have : v = x := Option.some.inj (e5.symm.trans px)
    exact this ▸ e6
  keep := fun k h h' ⟨c, j, its, e1, e2, e3, e4, e5⟩ hk => ⟨c, j, its, e1, e2, e3.carry fun o q => hk j (by unfold zfp; rw [e1, e2]; simp) o q, e4.carry fun o q => hk c.2 (by unfold zfp; rw [e1, e2]; simp) o q, e5⟩
  keep' := fun k h h' ⟨c, j, e1, e2, e3⟩ hk => ⟨c, j, e1, e2, e3.carry fun o q => hk j (by unfold zfp; rw [e1, e2]; simp) o q⟩
  zf := fun k hb => by
    obtain ⟨c, j, e1, e2, e3⟩ := zfp_mem hb
    rcases e3 with q | q
    · exact D.zj (q ▸ List.mem_of_getElem? e2)
    · exact (D.cz c (List.mem_of_getElem? e1)).1 q.symm
  Tf := fun k hb => by
    obtain ⟨c, j, e1, e2, e3⟩ := zfp_mem hb
    rcases e3 with q | q
    · exact D.TOj (q ▸ List.mem_of_getElem? e2)
    · exact (D.cz c (List.mem_of_getElem? e1)).2.2.1 q.symm
  jf := fun k l j hj hn hb => by
    obtain ⟨c, j', e1, e2, e3⟩ := zfp_mem hb
    rcases e3 with q | q
    · exact hn (D.nd l k j hj (q ▸ e2))
    · exact (D.cz c (List.mem_of_getElem? e1)).2.2.2 (q ▸ List.mem_of_getElem? hj)
  TIz := D.TIz
  TITO := D.TITO
  TIj := D.TIj
  TOz := D.TOz
  zj := D.zj
  TOj := D.TOj
def ztn (z TI TO : Addr) (js : List Addr) (cs : List (Bool × Addr)) (i : Nat) (h : Heap) : Prop := ∃ f0 f os, (f0 = .none ∨ ∃ T : Addr, f0 = rawInt T) ∧ h.get? z = some (zObj f0 f TI TO) ∧ h.get? TI = some (tObj (js.map .ref)) ∧ h.get? TO = some (tObj os) ∧ os.length = js.length ∧ ∀ k, k < js.length → ZSt' cs js i k h
theorem vals_pick {R : Nat → V → Value → Prop} : ∀ {vs : List Value} (j : Nat), (∀ k v, vs[k]? = some v → ∃ x, RelV x v ∧ R (j + k) x v) → ∃ xs : List V, Vals xs vs ∧ ∀ k x, xs[k]? = some x → ∃ v, vs[k]? = some v ∧ R (j + k) x v
  | [], _, _ => ⟨[], .nil, fun k x e => by simp at e⟩
  | v :: vs, j, h => by
    obtain ⟨x, r, e⟩ := h 0 v rfl
    obtain ⟨xs, rs, hs⟩ := vals_pick (vs := vs) (j + 1) fun k u hu => by
      have := h (k + 1) u hu
      rwa [show j + (k + 1) = j + 1 + k by omega] at this
    refine ⟨x :: xs, .cons r rs, fun k y hy => ?_⟩
    cases k with
    | zero =>
      cases hy
      exact ⟨v, rfl, e⟩
    | succ k =>
      obtain ⟨u, hu, ru⟩ := hs k y hy
      exact ⟨u, hu, by rwa [show j + (k + 1) = j + 1 + k by omega]⟩
end Pf

set_option maxHeartbeats 1000000
namespace Pf
open PySem PySem.Spec PyProof.Rows L2
end Pf

set_option maxHeartbeats 1000000
namespace Pf
open PySem PySem.Spec PyProof.Rows L2
end Pf

set_option maxHeartbeats 8000000
namespace Pf
open PySem PySem.Spec PyProof.Rows L2
/-! ### zip( *tables) as a reading -/
theorem tup_new {K : PySem.W.Frag} {W1 : Wd} {H : Hp} {μ : Mu} {T : Addr} {xs : List V} {ds : List PyData} (R : Rel K W1 H μ) (nT : H T = none) (h : Dqs K W1.S xs ds) :
    ∃ W2, Grow W1 H μ W2 (upd H T (.tup xs)) μ ∧ Rel K W2 (upd H T (.tup xs)) μ ∧ Dq K W2.S (.ref T) (.tuple ds) := by
  have g : Grow W1 H μ (W1.put T (.tup xs)) (upd H T (.tup xs)) μ := grow_share R nT
  exact ⟨_, g, R.share nT, .tup (SqT.of upd_same) (h.mono g.same)⟩
theorem dqs_of {K : PySem.W.Frag} {H : Hp} : ∀ {xs : List V} {ds : List PyData}, xs.length = ds.length → (∀ (k : Nat) (x : V) (d : PyData), xs[k]? = some x → ds[k]? = some d → Dq K H x d) → Dqs K H xs ds
  | [], [], _, _ => .nil
  | x :: xs, d :: ds, h, hk => .cons (hk 0 x d rfl rfl) (dqs_of (Nat.succ.inj h) fun k x d e1 e2 => hk (k + 1) x d e1 e2)
section
variable {X : Cx} {E : XK} {a : Expr} {Fa : Rho → M Sv} {pos p sp : Pos}
end
/-! ### a def with a star, its arguments being data -/
section
variable {P : Program} {w : World} {K : PySem.W.Frag} {mg : Str → Option Value} {base : Heap} {k : Nat} {f : Addr} {fd : FuncData} {x qual pv : Str} {st : Stmt} {N : List Str}
end
section
variable {X : Cx} {CX : CXT} {k j : Nat} {f : Addr} {E : XK} {x : Str} {p pos : Pos} {e : Expr} {es : List Expr} {Fm : List Sv → M Sv} {Fs : Rho → M (List Sv)}
end
end Pf

set_option maxHeartbeats 1000000
namespace Pf
open PySem PySem.Spec PyProof.Rows L2
section
variable {X : Cx} {E : XK} {a b : Expr} {pos : Pos}
end
end Pf

set_option maxHeartbeats 1000000
namespace Pf
open PySem PySem.Spec PyProof.Rows L2
section
variable {l l1 : En} {Fa : Rho → M Sv} {ta : S PyData}
end
/-! ### nine names, a list -/
end Pf

namespace Pf
open PySem PySem.Spec PyProof.Rows L2
/-! ### a list that is written no more becomes data, between two statements -/
end Pf

namespace Pf
open PySem PySem.Spec PyProof.Rows L2
end Pf

namespace Pf
open PySem PySem.Spec PyProof.Rows L2
section
variable {X : Cx} {E : XK}
/-! ### str(an int) -/
end
end Pf

namespace Pf
open PySem PySem.Spec PyProof.Rows L2
/-! ### xs = xs + [..], xs a list that may be written -/
/-! ### a def that calls itself: what it does with no calls left is not said -/
end Pf

namespace Pf
open PySem PySem.Spec PyProof.Rows L2
section
variable {X : Cx} {E : XK} {a b e : Expr} {Fa Fb : Rho → M Sv} {pos p : Pos}
/-! ### sep.join(texts) -/
/-! ### f-strings of texts and ints -/
inductive PJX (X : Cx) (E : XK) : List Expr → List (Rho → M Sv) → Prop where
  | nil : PJX X E [] []
  | cons {e : Expr} {F : Rho → M Sv} {es : List Expr} {Fs : List (Rho → M Sv)} (h : PX X E e F) (r : PJX X E es Fs) : PJX X E (e :: es) (F :: Fs)
end
end Pf

namespace Pf
open PySem PySem.Spec PyProof.Rows L2
/-! ### the different ones among ints -/
def dd : List Int → List Int
  | [] => []
  | x :: r => if x ∈ dd r then dd r else x :: dd r
theorem dd_mem {k : Int} : ∀ ns : List Int, k ∈ dd ns ↔ k ∈ ns
  | [] => Iff.rfl
  | x :: r => by
    have ih := dd_mem (k := k) r
    unfold dd
    split
    · rename_i h
      rw [ih, List.mem_cons]
      constructor
      · exact .inr
      · rintro (rfl | z)
        · exact (dd_mem r).mp h
        · exact z
    · rw [List.mem_cons, List.mem_cons, ih]
theorem dd_nodup : ∀ ns : List Int, (dd ns).Nodup
  | [] => List.nodup_nil
  | x :: r => by
    unfold dd
    split
    · exact dd_nodup r
    · rename_i h
      exact List.nodup_cons.mpr ⟨h, dd_nodup r⟩
theorem dd_len : ∀ ns : List Int, (dd ns).length ≤ ns.length
  | [] => Nat.le_refl _
  | x :: r => by
    have := dd_len r
    unfold dd
    split
    · rw [List.length_cons]
      omega
    · rw [List.length_cons, List.length_cons]
      omega
theorem dd_self : ∀ {ns : List Int}, ns.Nodup → dd ns = ns
  | [], _ => rfl
  | x :: r, h => by
    obtain ⟨h1, h2⟩ := List.nodup_cons.mp h
    unfold dd
    rw [dd_self h2, if_neg h1]
theorem met_nodup (val : Nat → Int) : ∀ i, (PyProof.Rows.firstMet val i).Nodup
  | 0 => List.nodup_nil
  | i + 1 => by
    rw [PyProof.Rows.firstMet_succ]
    unfold PyProof.Rows.step_dedup
    split
    · exact met_nodup val i
    · rename_i h
      refine List.nodup_append.mpr ⟨met_nodup val i, List.nodup_cons.mpr ⟨List.not_mem_nil, List.nodup_nil⟩, fun a ha b hb => ?_⟩
      rw [List.mem_singleton.mp hb]
      intro z
      exact h (List.any_eq_true.mpr ⟨a, ha, by rw [z]; exact beq_self_eq_true _⟩)
theorem range_getD (ns : List Int) : (List.range ns.length).map (fun i => ns.getD i 0) = ns := by
  refine List.ext_getElem? fun i => ?_
  by_cases hi : i < ns.length
  · rw [List.getElem?_map, List.getElem?_range hi, List.getElem?_eq_getElem hi]
    show some (ns.getD i 0) = _
    rw [List.getD_eq_getElem?_getD, List.getElem?_eq_getElem hi]
    rfl
  · rw [List.getElem?_eq_none (by rw [List.length_map, List.length_range]; omega), List.getElem?_eq_none (by omega)]
theorem met_len (ns : List Int) : (PyProof.Rows.firstMet (fun i => ns.getD i 0) ns.length).length = (dd ns).length := by
  refine ((List.perm_ext_iff_of_nodup (met_nodup _ _) (dd_nodup ns)).mpr fun k => ?_).length_eq
  have h := PyProof.Rows.firstMet_any (fun i => ns.getD i 0) ns.length k
  rw [range_getD] at h
  rw [dd_mem]
  constructor
  · intro hk
    have : (PyProof.Rows.firstMet (fun i => ns.getD i 0) ns.length).any (· == k) = true := List.any_eq_true.mpr ⟨k, hk, beq_self_eq_true _⟩
    rw [h] at this
    obtain ⟨x, hx, e⟩ := List.any_eq_true.mp this
    rw [← beq_iff_eq.mp e]
    exact hx
  · intro hk
    have : ns.any (· == k) = true := List.any_eq_true.mpr ⟨k, hk, beq_self_eq_true _⟩
    rw [← h] at this
    obtain ⟨x, hx, e⟩ := List.any_eq_true.mp this
    rw [← beq_iff_eq.mp e]
    exact hx
section
variable {X : Cx} {E : XK} {a : Expr} {Fa : Rho → M Sv} {p p2 q pos : Pos}
def tLenSet (K : PySem.W.Frag) (ta : TE) : TE := fun σ H Q => ta σ H fun x H1 => ∃ (l : Addr) (ns : List Int), x = .ref l ∧ SqL K H1 l (ns.map V.int) ∧ ns.length ≤ 4000 ∧ Q (.int ((dd ns).length : Nat)) H1
theorem pe_lenSet {ta : TE} (hg : Gl X "len") (hm : X.mg "len" = none) (hg2 : Gl X "set") (hm2 : X.mg "set" = none) (ha : PE X a ta) (hc : X.calm = true) (na : starEach [a] X.env = (false, eval a X.env) :: starEach [] X.env) : PE X (.Call (.Name "len" p) [.Call (.Name "set" p2) [a] [] q] [] pos) (tLenSet X.K ta) := by
  refine ⟨fun pins s σ H Q I h => ?_⟩
  refine Call_ (ld_blt I hg hm boot_len (PyProof.Rows.callWith_builtin1 (PyProof.Rows.args_cons (Call_ (ld_blt I hg2 hm2 boot_set ?_)) rfl) rfl rfl))
  refine PyProof.Rows.callWith_type1 (PyProof.Rows.args_cons (thn (ha.run pins s σ H _ I h) fun v s1 ⟨x, H1, I1, r1, q1⟩ => PyProof.Rows.args_nil ?_) na) na rfl
  obtain ⟨l, ns, rfl, hq, hl, q1⟩ := q1
  cases r1
  obtain ⟨its, r, pl, hz⟩ := I1.list hq
  have hn : its.toArray.size = ns.length := by rw [List.size_toArray, ← r.length, List.length_map]
  refine call_set_list (I1.ok.hd hc) pl.isList (by simpa using RZ.intsAre_vals r) (by rw [hn]; unfold scanBound; omega) fun h' tk hS hk => PyProof.Rows.args_nil ?_
  rw [hn, met_len] at hS
  obtain ⟨o, es, ep, t, ho, hex, hd, _, _, _, hf, hsz⟩ := hS
  have hb := dd_len ns
  exact call_len_set ho hex hd hf (by rw [hsz]; have := sizeLine_eq; omega) ⟨.int _, H1, (I1.kept (t' := tk) fun b o e => hk b o (Heap.lt_size e) e).tok _, ⟨_, by rw [hsz]⟩, q1⟩
/-! ### len(set(xs)), xs a list of ints -/
def bLenSet (ss : List Sv) : M Sv := match ss with
  | [s] => (rd s).bind fun d => match d with
    | .list ds => match asInts ds with
      | some ns => if decide (ns.length ≤ 4000) = true then M.ret (.dat (.int ((dd ns).length : Nat))) else M.fail
      | none => M.fail
    | _ => M.fail
  | _ => M.fail
theorem dqs_int {K : PySem.W.Frag} {H : Hp} : ∀ {ns : List Int} {vs : List V}, Dqs K H vs (ns.map .int) → vs = ns.map V.int
  | [], _, .nil => rfl
  | n :: ns, _, .cons h r => by
    cases h
    rw [dqs_int r]
    rfl
theorem x_lenSet (hm : X.mg "len" = none) (hm2 : X.mg "set" = none) (ha : PX X E a Fa) (hg : Gl X "len" := by rfl) (hg2 : Gl X "set" := by rfl) (hc : X.calm = true := by rfl)
    (na : starEach [a] X.env = (false, eval a X.env) :: starEach [] X.env := by rfl) : PX X E (.Call (.Name "len" p) [.Call (.Name "set" p2) [a] [] q] [] pos) (callV bLenSet (argC Fa argN)) := pe_weak (pe_lenSet hg hm hg2 hm2 ha hc na) fun σ H Q ⟨W, ρ, μ, r, h, e, q⟩ => by
  have e' : M.bind (Fa ρ) (fun s => bLenSet [s]) μ = some r := by
    rw [← e]
    unfold callV argC
    rw [M.assoc]
    rfl
  refine tX_bind h e' q fun v s W1 H1 μ1 g1 h1 rs e1 q1 => ?_
  unfold bLenSet at e1
  obtain ⟨d, e2, e3⟩ := rd_bind e1
  obtain ⟨d', z, hd⟩ := rd_rel h1.rel rs e2
  cases z
  cases hd with
  | lst h2 r2 =>
    rename_i ad xs ds
    cases en : asInts ds with
    | none =>
      have e4 : (match asInts ds with | some ns => if decide (ns.length ≤ 4000) = true then M.ret (.dat (.int ((dd ns).length : Nat))) else M.fail | none => M.fail : M Sv) μ1 = some r := e3
      rw [en] at e4
      cases e4
    | some ns =>
      have e4 : (match asInts ds with | some ns => if decide (ns.length ≤ 4000) = true then M.ret (.dat (.int ((dd ns).length : Nat))) else M.fail | none => M.fail : M Sv) μ1 = some r := e3
      rw [en] at e4
      obtain ⟨c, e5⟩ := iff_ok e4
      cases e5
      have c' := of_decide_eq_true c
      have ed := asInts_eq en
      subst ed
      have ex := dqs_int r2
      subst ex
      exact ⟨ad, ns, rfl, SqL.of h2, c', q1 _ _ (Grow.refl _ _ _) h1.rel _ (.int _)⟩
  | _ => cases e3
end
end Pf

namespace Pf
open PySem PySem.Spec PyProof.Rows L2
def oLenSet : PyData → Option PyData
  | .list ds => match asInts ds with
    | some ns => if decide (ns.length ≤ 4000) = true then some (.int ((dd ns).length : Nat)) else none
    | none => none
  | _ => none
theorem bl_lenSet : Bl1 bLenSet oLenSet := fun a da d μ ra e => by
  cases da with
  | list ds =>
    have e' : (match asInts ds with | some ns => if decide (ns.length ≤ 4000) = true then some (PyData.int ((dd ns).length : Nat)) else none | none => none) = some d := e
    cases en : asInts ds with
    | none =>
      rw [en] at e'
      cases e'
    | some ns =>
      rw [en] at e'
      have e2 : (if decide (ns.length ≤ 4000) = true then some (PyData.int ((dd ns).length : Nat)) else none) = some d := e'
      by_cases c : decide (ns.length ≤ 4000) = true
      · rw [if_pos c] at e2
        cases e2
        show M.bind (rd a) _ μ = _
        rw [bind_ok ra.rd]
        show (match asInts ds with | some ns => if decide (ns.length ≤ 4000) = true then M.ret (.dat (.int ((dd ns).length : Nat))) else M.fail | none => M.fail : M Sv) μ = _
        rw [en]
        show (if decide (ns.length ≤ 4000) = true then M.ret (.dat (.int ((dd ns).length : Nat))) else M.fail : M Sv) μ = _
        rw [if_pos c]
        rfl
      · rw [if_neg c] at e2
        cases e2
  | _ => cases e
theorem oLenSet_n {ns : List Int} (hl : ns.length ≤ 4000) : oLenSet (.list (ns.map .int)) = some (.int ((dd ns).length : Nat)) := by
  have en : asInts (ns.map PyData.int) = some ns := by
    clear hl
    induction ns with
    | nil => rfl
    | cons n ns ih =>
      show (asInts (ns.map PyData.int)).map (n :: ·) = _
      rw [ih]
      rfl
  show (match asInts (ns.map PyData.int) with | some ns => if decide (ns.length ≤ 4000) = true then some (PyData.int ((dd ns).length : Nat)) else none | none => none) = _
  rw [en]
  exact if_pos (decide_eq_true hl)
end Pf

set_option maxHeartbeats 1000000
namespace Pf
open PySem PySem.Spec PyProof.Rows L2
noncomputable def T__law_fits (a0 a1 : PyData) : S PyData :=
  ((((S.ret a1).bind fun x1 => (S.ret a0).bind fun x2 => S.lift (ziD x1 x2)).bind fun ds31 => S.foldF (fun (s3 : PUnit) d4 => ((S.lift (un2 d4)).bind fun p6 => (S.ret p6.1).bind fun s7 => ((S.lift (un2 p6.2)).bind fun p10 => (S.ret p10.1).bind fun s11 => (S.ret p10.2).bind fun s13 => S.ret (s11, s13)).bind fun s9 => S.ret (s7, s9)).bind fun t5 => ((((S.ret t5.1).bind fun x32 => (S.ret t5.2.1).bind fun x33 => S.lift (cLt x32 x33)).bind fun z39 => bOr z39 (((S.ret t5.2.2).bind fun x34 => (S.ret PyData.none).bind fun x35 => S.lift (cIs true x34 x35)).bind fun z38 => bAnd z38 ((S.ret t5.1).bind fun x36 => (S.ret t5.2.2).bind fun x37 => S.lift (cGt x36 x37)))).bind fun z40 => if z40 = true then ((S.ret (PyData.bool false)).bind fun x41 => S.ret (.rt x41)) else (S.ret (.nx PUnit.unit)))) ds31 PUnit.unit).bind fun o42 => flR o42 fun (s43 : PUnit) =>
  (S.ret (PyData.bool true)))
noncomputable abbrev F__law_fits : List Sv → M Sv := liftF (u2 T__law_fits)
noncomputable def G__law_fits : Rho → M Out :=
  (gSeq (gFor (zipW (slot 1) (slot 0)) (gTp 2 (gsCons (gNm 2) (gsCons (gTp 2 (gsCons (gNm 3) (gsCons (gNm 4) gsNil))) gsNil)))
  (gIf (orT (tst (bin pLt (slot 2) (slot 3))) (andT (tst (bin (pIs true) (slot 4) (con .none))) (tst (bin pGt (slot 2) (slot 4)))))
  (gRet (con (.bool false)))
  gSkip))
  (gRet (con (.bool true))))
theorem tt__law_fits (a0 a1 : PyData) : Jd [some (.im a0), some (.im a1), none, none, none] G__law_fits (T__law_fits a0 a1) pR := by
  unfold T__law_fits G__law_fits
  exact (r_flow (s_forF (h := fun (s : PUnit) => [some (.im a0), some (.im a1), none, none, none]) PUnit.unit (w_zip (e_slot 1 rfl) (e_slot 0 rfl)) (.keep (.keep (.drop (.drop (.drop .nil))))) (fun s3 d4 => b_tgF (u := fun d4 => ((S.lift (un2 d4)).bind fun p6 => (S.ret p6.1).bind fun s7 => ((S.lift (un2 p6.2)).bind fun p10 => (S.ret p10.1).bind fun s11 => (S.ret p10.2).bind fun s13 => S.ret (s11, s13)).bind fun s9 => S.ret (s7, s9))) (e' := fun (t : ((PyData) × (((PyData) × (PyData))))) => [some (.im a0), some (.im a1), some (.im t.1), some (.im t.2.1), some (.im t.2.2)]) d4 (tg_tp2 (e1 := fun (s7 : PyData) => [some (.im a0), some (.im a1), some (.im s7), none, none]) (e2 := fun (s7 : PyData) (s9 : ((PyData) × (PyData))) => [some (.im a0), some (.im a1), some (.im s7), some (.im s9.1), some (.im s9.2)]) (u1 := fun d8 => (S.ret d8)) (u2 := fun d15 => ((S.lift (un2 d15)).bind fun p16 => (S.ret p16.1).bind fun s17 => (S.ret p16.2).bind fun s19 => S.ret (s17, s19))) d4 (fun d8 => (tg_nm 2 d8)) (fun s7 d15 => (tg_tp2 (e1 := fun (s17 : PyData) => [some (.im a0), some (.im a1), some (.im s7), some (.im s17), none]) (e2 := fun (s17 : PyData) (s19 : PyData) => [some (.im a0), some (.im a1), some (.im s7), some (.im s17), some (.im s19)]) (u1 := fun d18 => (S.ret d18)) (u2 := fun d20 => (S.ret d20)) d15 (fun d18 => (tg_nm 3 d18)) (fun s17 d20 => (tg_nm 4 d20))))) fun t5 => (q_if (u_or (u_bin op_cmp' (e_slot 2 rfl) (e_w (e_slot 3 rfl))) (u_and (u_bin op_is' (e_slot 4 rfl) (e_w (e_con PyData.none))) (u_bin op_cmp' (e_slot 2 rfl) (e_w (e_slot 4 rfl))))) (f_ret (e_con (PyData.bool false))) (f_skip PUnit.unit (.keep (.keep (.drop (.drop (.drop .nil))))))))) fun s43 =>
  (r_ret (e_con (PyData.bool true))))
theorem same__law_fits (ss : List Sv) (μ : Mu) (r : Res Sv) (hs : ss.length = 2) (wf : Wf μ) (e : F__law_fits ss μ = some r) : ∃ r', G__law_fits (ini 5 ss) μ = some r' ∧ Agree μ.length r r' :=
  same_T (n := 2) (fun ds h => by
    obtain ⟨a0, a1, rfl⟩ := len2 h
    exact r_e (tt__law_fits a0 a1)) ss μ r hs wf e
noncomputable def T__law_apart (a0 a1 a2 : PyData) : S PyData :=
  (((S.ret []).bind fun as1 => S.ret (PyData.list as1)).bind fun v2 =>
  ((((S.ret a2).bind fun x3 => S.lift (seqD x3)).bind fun ds7 => S.foldM (fun (s4 : PyData) d5 => (S.ret d5).bind fun t6 => (((S.ret s4).bind fun x15 => ((((S.ret a0).bind fun x12 => ((S.ret a1).bind fun x10 => ((S.ret t6).bind fun x8 => (S.ret []).bind fun as9 => S.ret (x8 :: as9)).bind fun as11 => S.ret (x10 :: as11)).bind fun as13 => S.ret (x12 :: as13)).bind (u3 T__law_part)).bind fun x14 => S.lift (oList x14)).bind fun x16 => S.lift (oAdd x15 x16)).bind fun s18 => S.ret (s18))) ds7 (v2)).bind fun v19 =>
  (((S.ret v19).bind fun x20 => S.lift (oLenSet x20)).bind fun x22 => ((S.ret v19).bind fun x21 => S.lift (oLen x21)).bind fun x23 => S.lift (asB2 (cEq x22 x23)))))
noncomputable abbrev F__law_apart : List Sv → M Sv := liftF (u3 T__law_apart)
noncomputable def G__law_apart : Rho → M Out :=
  (gSeq (gSet 3 (lstV false argN))
  (gSeq (gFor (seqV (slot 2)) (gNm 4)
  (gSet 3 (bin (pAdd false) (slot 3) (callV (bList false) (argC (callF F__law_part 3 (argC (slot 0) (argC (slot 1) (argC (slot 4) argN)))) argN)))))
  (gRet (bin pEq (callV bLenSet (argC (slot 3) argN)) (callV bLen (argC (slot 3) argN))))))
theorem tt__law_apart (a0 a1 a2 : PyData) : Jd [some (.im a0), some (.im a1), some (.im a2), none, none] G__law_apart (T__law_apart a0 a1 a2) pR := by
  unfold T__law_apart G__law_apart
  exact (r_seq (s_setI 3 (e_lst a_nil')) fun v2 =>
  (r_seq (s_for' (h := fun (s : PyData) => [some (.im a0), some (.im a1), some (.im a2), some (.im s), none]) (v2) (w_seq (e_slot 2 rfl)) (.keep (.keep (.keep (.keep (.drop .nil))))) (fun s4 d5 => b_tg (u := fun d5 => (S.ret d5)) (e' := fun (t : PyData) => [some (.im a0), some (.im a1), some (.im a2), some (.im s4), some (.im t)]) d5 (tg_nm 4 d5) fun t6 => ((n_end (fun (s18 : PyData) => (s18)) (s_setI 3 (e_bin op_add' (e_slot 3 rfl) (e_w (e_bl1 bl_list (e_w (e_call (a_cons' (e_slot 0 rfl) (a_cons' (e_slot 1 rfl) (a_cons' (e_slot 4 rfl) a_nil'))))))))) fun s18 => (.keep (.keep (.keep (.keep (.drop .nil))))))))) fun v19 =>
  (r_ret (e_binB op_eqn' (e_bl1 bl_lenSet (e_w (e_slot 3 rfl))) (e_w (e_bl1 bl_len (e_w (e_slot 3 rfl))))))))
theorem same__law_apart (ss : List Sv) (μ : Mu) (r : Res Sv) (hs : ss.length = 3) (wf : Wf μ) (e : F__law_apart ss μ = some r) : ∃ r', G__law_apart (ini 5 ss) μ = some r' ∧ Agree μ.length r r' :=
  same_T (n := 3) (fun ds h => by
    obtain ⟨a0, a1, a2, rfl⟩ := len3 h
    exact r_e (tt__law_apart a0 a1 a2)) ss μ r hs wf e
end Pf

set_option maxHeartbeats 1000000
namespace Pf
open PySem PySem.Spec PyProof.Rows L2
/-! ### tuple(range(n)) -/
def uptoD (n : Nat) : List PyData := (List.range n).map fun k : Nat => PyData.int (k : Int)
theorem dqs_rg {K : PySem.W.Frag} {H : Hp} (i : Int) : Dqs K H (rgV 0 i) (uptoD i.toNat) := by
  unfold rgV uptoD
  refine dqs_of (by rw [List.length_map, List.length_map, List.length_range, List.length_range, Int.sub_zero]) fun k x d e1 e2 => ?_
  rw [List.getElem?_map] at e1 e2
  by_cases h : k < i.toNat
  · rw [List.getElem?_range (by rw [Int.sub_zero]; exact h)] at e1
    rw [List.getElem?_range h] at e2
    cases e1
    cases e2
    show Dq K H (V.int (0 + (k : Int))) (.int (k : Int))
    rw [Int.zero_add]
    exact .int _
  · rw [List.getElem?_eq_none (by rw [List.length_range]; omega)] at e2
    cases e2
section
variable {X : Cx} {E : XK} {a : Expr} {Fa : Rho → M Sv} {pos pos2 p p2 : Pos}
def tupRgV (Fa : Rho → M Sv) (ρ : Rho) : M Sv := (Fa ρ).bind fun s => (asI s).bind fun i => if (decide (0 ≤ i) && decide (i ≤ 1000000)) = true then M.ret (.dat (.tuple (uptoD i.toNat))) else M.fail
theorem x_tupRg (hc : X.calm = true) (hg : Gl X "tuple") (hm : X.mg "tuple" = none) (hg2 : Gl X "range") (hm2 : X.mg "range" = none) (ha : PX X E a Fa) (hs : starEach [a] X.env = (false, eval a X.env) :: starEach [] X.env := by rfl)
    (hs2 : starEach [.Call (.Name "range" p2) [a] [] pos2] X.env = (false, eval (.Call (.Name "range" p2) [a] [] pos2) X.env) :: starEach [] X.env := by rfl) :
    PX X E (.Call (.Name "tuple" p) [.Call (.Name "range" p2) [a] [] pos2] [] pos) (tupRgV Fa) := pe_weak (pe_tupRg hc hg hm (prg_1 hg2 hm2 ha hs) hs2) fun σ H Q ⟨W, ρ, μ, r, h, e, q⟩ => by
  refine tX_bind h e q fun v s W1 H1 μ1 g1 h1 rs e1 q1 => ?_
  obtain ⟨i, rfl, e1⟩ := asI_bind e1
  obtain ⟨c, e1⟩ := iff_ok e1
  obtain ⟨c1, c2⟩ := Bool.and_eq_true_iff.mp c
  have c1 := of_decide_eq_true c1
  have c2 := of_decide_eq_true c2
  cases rs
  cases e1
  refine ⟨i, rfl, ⟨by omega, by omega, by omega, by omega, by omega⟩, fun q' nq => ?_⟩
  obtain ⟨W2, g2, R2, d2⟩ := tup_new h1.rel nq (dqs_rg (K := X.K) (H := W1.S) i)
  exact q1 _ _ g2 R2 _ d2
end
/-! ### sorted(a list of ints) -/
def sortL (ns : List Int) : List Int := ns.mergeSort fun a b => decide (a ≤ b)
theorem sortL_perm (ns : List Int) : (sortL ns).Perm ns := List.mergeSort_perm ..
theorem sortL_le (ns : List Int) : (sortL ns).Pairwise (· ≤ ·) :=
  (List.pairwise_mergeSort (le := fun a b : Int => decide (a ≤ b)) (fun a b c h1 h2 => decide_eq_true (Int.le_trans (of_decide_eq_true h1) (of_decide_eq_true h2))) (fun a b => by
    by_cases h : a ≤ b
    · simp [h]
    · simp [show b ≤ a by omega]) ns).imp fun h => of_decide_eq_true h
theorem sortL_only {ns ms : List Int} (h1 : ms.Perm ns) (h2 : ms.Pairwise (· ≤ ·)) : ms = sortL ns :=
  List.Perm.eq_of_pairwise (fun a b _ _ x y => Int.le_antisymm x y) h2 (sortL_le ns) (h1.trans (sortL_perm ns).symm)
def bSort (ss : List Sv) : M Sv := match ss with
  | [s] => (rd s).bind fun d => match d with
    | .list ds => (orFail (asInts ds)).bind fun ns => M.ret (.dat (.list ((sortL ns).map .int)))
    | _ => M.fail
  | _ => M.fail
theorem dqs_ints {K : PySem.W.Frag} {H : Hp} (ns : List Int) : Dqs K H (ns.map V.int) (ns.map PyData.int) := by
  refine dqs_of (by rw [List.length_map, List.length_map]) fun k x d e1 e2 => ?_
  rw [List.getElem?_map] at e1 e2
  cases e : ns[k]? with
  | none =>
    rw [e] at e1
    cases e1
  | some n =>
    rw [e] at e1 e2
    cases e1
    cases e2
    exact .int _
theorem lst_new {K : PySem.W.Frag} {W1 : Wd} {H : Hp} {μ : Mu} {T : Addr} {xs : List V} {ds : List PyData} (R : Rel K W1 H μ) (nT : H T = none) (h : Dqs K W1.S xs ds) :
    ∃ W2, Grow W1 H μ W2 (upd H T (.lst xs)) μ ∧ Rel K W2 (upd H T (.lst xs)) μ ∧ Dq K W2.S (.ref T) (.list ds) := by
  have g : Grow W1 H μ (W1.put T (.lst xs)) (upd H T (.lst xs)) μ := grow_share R nT
  exact ⟨_, g, R.share nT, .lst upd_same (h.mono g.same)⟩
section
variable {X : Cx} {E : XK}
theorem b_sort : CallR X (.builtin "sorted") (rC X.K E bSort) := callr_weak cr_sortedI fun xs H Q ⟨W, μ, ss, r, R, rs, e, q⟩ => by
  unfold bSort at e
  split at e
  · obtain ⟨x, rfl, h⟩ := rels1 rs
    obtain ⟨d, e1, e⟩ := rd_bind e
    obtain ⟨d', z1, h1⟩ := rd_rel R h e1
    cases z1
    split at e
    · obtain ⟨ns, e2, e⟩ := orFail_some e
      cases e
      have z := asInts_eq e2
      subst z
      cases h1 with
      | lst h2 r2 =>
        have ev := ints_rel r2 e2
        subst ev
        refine ⟨_, ns, rfl, SqL.of h2, fun ns' p hp hs np => ?_⟩
        rw [sortL_only hp hs]
        obtain ⟨W2, g2, R2, d2⟩ := lst_new R np (dqs_ints (K := X.K) (H := W.S) (sortL ns))
        exact q _ _ g2 R2 _ d2
    · cases e
  · cases e
end
end Pf

set_option maxHeartbeats 1000000
namespace Pf
open PySem PySem.Spec PyProof.Rows L2
def oSort : PyData → Option PyData
  | .list ds => (asInts ds).map fun ns => .list ((sortL ns).map .int)
  | _ => none
def oTupRg : PyData → Option PyData
  | .int i => if (decide (0 ≤ i) && decide (i ≤ 1000000)) = true then some (.tuple (uptoD i.toNat)) else none
  | _ => none
theorem bl_sort : Bl1 bSort oSort := fun a da d μ ra e => by
  unfold bSort
  dsimp only
  rw [bind_ok ra.rd]
  unfold oSort at e
  split at e
  · rename_i ds
    try dsimp only
    cases q : asInts ds with
    | none =>
      rw [q] at e
      cases e
    | some ns =>
      rw [q] at e
      cases e
      rw [bind_ok (show orFail (some ns) μ = some (.ok ns μ) from rfl)]
      rfl
  · cases e
section
variable {l l1 : En} {Fa : Rho → M Sv} {ta : S PyData}
theorem e_tupRg (h : Jd l Fa ta (pV l1)) : Jd l (tupRgV Fa) (ta.bind fun a => S.lift (oTupRg a)) (pV l1) := fun k rest ρ μ e => by
  refine (h k rest ρ μ e).bind fun k1 μ1 a da ⟨z, e1⟩ => ?_
  subst z
  refine Jl.lift fun d q => ?_
  cases da with
  | int i =>
    have q : (if (decide (0 ≤ i) && decide (i ≤ 1000000)) = true then some (PyData.tuple (uptoD i.toNat)) else none) = some d := q
    split at q
    · rename_i c
      cases q
      exact ⟨.dat (.tuple (uptoD i.toNat)), μ1, by
        show ((asI (.dat (.int i))).bind fun i => if (decide (0 ≤ i) && decide (i ≤ 1000000)) = true then M.ret (Sv.dat (PyData.tuple (uptoD i.toNat))) else M.fail) μ1 = _
        exact (congrFun (if_pos c) μ1).trans rfl, rfl, e1⟩
    · cases q
  | _ => cases q
end
end Pf

set_option maxHeartbeats 1000000
namespace Pf
open PySem PySem.Spec PyProof.Rows L2
/-! ### enumerate of a zip -/
section
variable {prog : Program} {w : World} {A : Around} {E : Value → Shared → Prop} {s : Shared}
abbrev stAt (s : Shared) (h : Heap) (tk : Nat) : Shared := { heap := h, gens := s.gens, drawn := s.drawn, toks := tk, os := s.os }
/-- one step, whatever the step of the iterator within makes -/
theorem enumI_next {e it : Addr} {c : Int} {old : Value} {R : Value → Heap → Prop} {Q : Value → Shared → Prop} (he : IsEnum s.heap e it c old)
    (inner : ∀ (Q' : Value → Shared → Prop), (∀ x h1 tk, IsEnum h1 e it c old → R x h1 → Q' x (stAt s h1 tk)) → wpAny (model prog w) A (Builtin.SmallTypes.nextOf (.ref it)) Q' E s)
    (hQ : ∀ x h1 h' tk, IsEnum h1 e it c old → R x h1 → IsEnumOut h' e it (c + 1) x h1.objs.size → h'.get? h1.objs.size = some { cls := .type "tuple", data := .seq #[.int c tk, x] } → h'.objs.size = h1.objs.size + 1 →
      (∀ b o, b ≠ e → h1.get? b = some o → h'.get? b = some o) → Q (.ref h1.objs.size) (stAt s h' (tk + 1))) :
    wpAny (model prog w) A (Builtin.«enumerate.__next__» ⟨[.ref e], []⟩) (fun fin s' => ∃ v, fin = .done (.ret v) ∧ Q v s') E s := by
  show wpAny _ _ (field (.ref e) 2 >>= _) _ _ _
  refine wpAny_bind (wpAny_field he rfl (x := .ref it) rfl ?_)
  refine wpAny_bind (inner _ fun x h₁ tk he₁ hr => ?_)
  show wpAny _ _ (field (.ref e) 3 >>= _) _ _ (stAt s h₁ tk)
  refine wpAny_bind (wpAny_field he₁ rfl (x := rawInt c) rfl ?_)
  show wpAny _ _ (field (.ref e) 4 >>= _) _ _ (stAt s h₁ tk)
  refine wpAny_bind (wpAny_field he₁ rfl (x := .none) rfl ?_)
  show wpAny _ _ (mkInt c >>= _) _ _ (stAt s h₁ tk)
  refine wpAny_bind (wpAny_mkInt ?_)
  show wpAny _ _ (setField (.ref e) 3 (rawInt (c + 1)) >>= _) _ _ (stAt s h₁ (tk + 1))
  refine wpAny_bind (wpAny_setField_rec he₁ (by simp) fun h₂ (he₂ : IsEnum h₂ e it (c + 1) old) (k₂ : Heap.SameBut e h₁ h₂) => ?_)
  show wpAny _ _ (setField (.ref e) 4 .none >>= _) _ _ (stAt s h₂ (tk + 1))
  refine wpAny_bind (wpAny_setField_rec he₂ (by simp) fun h₃ (he₃ : IsEnum h₃ e it (c + 1) old) (k₃ : Heap.SameBut e h₂ h₃) => ?_)
  show wpAny _ _ (newTuple [.int c tk, x] >>= _) _ _ (stAt s h₃ (tk + 1))
  refine wpAny_bind (wpAny_newTuple ?_)
  have z3 : h₃.objs.size = h₁.objs.size := k₃.1.trans k₂.1
  let tup : Obj := { cls := .type "tuple", data := .seq #[.int c tk, x] }
  have he₄ : IsEnum (h₃.push tup) e it (c + 1) old := Heap.get?_push_of_some _ he₃
  have t4 : (h₃.push tup).get? h₁.objs.size = some tup := by
    rw [← z3]
    exact Heap.get?_push_size _ rfl
  have z4 : (h₃.push tup).objs.size = h₁.objs.size + 1 := by
    rw [Heap.size_push, z3]
  have k4 : ∀ b o, b ≠ e → h₁.get? b = some o → (h₃.push tup).get? b = some o := fun b o hb q => Heap.get?_push_of_some _ ((k₃.2 b hb).trans ((k₂.2 b hb).trans q))
  have el : e < h₁.objs.size := Heap.lt_size he₁
  show wpAny _ _ (Builtin.SmallTypes.ownedTupleIsFree (.ref e) >>= _) _ _ (stAt s (h₃.push tup) (tk + 1))
  have ez : Value.ref h₃.objs.size = Value.ref h₁.objs.size := by rw [z3]
  rw [z3]
  generalize h₃.push tup = h₄ at he₄ t4 z4 k4
  refine wpAny_bind ?_
  unfold Builtin.SmallTypes.ownedTupleIsFree
  refine wpAny_bind (wpAny_field he₄ rfl (x := .none) rfl (wpAny_pure ?_))
  simp only [if_true]
  refine wpAny_bind (wpAny_rule ?_)
  refine wpAny_bind (wpAny_field he₄ rfl (x := old) rfl ?_)
  refine wpAny_bind (wpAny_setField_rec he₄ (by simp) fun h₅ (he₅ : IsEnum h₅ e it (c + 1) x) (k₅ : Heap.SameBut e h₄ h₅) => ?_)
  show wpAny _ _ (Builtin.SmallTypes.ownedTupleHandOut (.ref e) (.ref h₁.objs.size) >>= _) _ _ (stAt s h₅ (tk + 1))
  refine wpAny_bind ?_
  unfold Builtin.SmallTypes.ownedTupleHandOut
  refine wpAny_bind (wpAny_setField_rec he₅ (by simp) fun h₆ (he₆ : IsEnumOut h₆ e it (c + 1) x h₁.objs.size) (k₆ : Heap.SameBut e h₅ h₆) => ?_)
  refine wpAny_setField_rec he₆ (by simp) fun h₇ (he₇ : IsEnumOut h₇ e it (c + 1) x h₁.objs.size) (k₇ : Heap.SameBut e h₆ h₇) => ?_
  have up : ∀ b o, b ≠ e → h₄.get? b = some o → h₇.get? b = some o := fun b o hb q => (k₇.2 b hb).trans ((k₆.2 b hb).trans ((k₅.2 b hb).trans q))
  refine wpAny_bind (wpAny_letGo (wpAny_pure ⟨_, rfl, hQ x h₁ h₇ tk he₁ hr he₇ (up _ _ (Nat.ne_of_gt el) t4) ?_ fun b o hb q => up b o hb (k4 b o hb q)⟩))
  rw [k₇.1, k₆.1, k₅.1, z4]
theorem enumI_item {e it : Addr} {c : Int} {old : Value} {R : Value → Heap → Prop} {Q : Option Value → Shared → Prop} (he : IsEnum s.heap e it c old)
    (inner : ∀ (E' : Value → Shared → Prop) (Q' : Value → Shared → Prop), (∀ x h1 tk, IsEnum h1 e it c old → R x h1 → Q' x (stAt s h1 tk)) → wpAny (model prog w) A.in1 (Builtin.SmallTypes.nextOf (.ref it)) Q' E' s)
    (hQ : ∀ x h1 h' tk, IsEnum h1 e it c old → R x h1 → IsEnumOut h' e it (c + 1) x h1.objs.size → h'.get? h1.objs.size = some { cls := .type "tuple", data := .seq #[.int c tk, x] } → h'.objs.size = h1.objs.size + 1 →
      (∀ b o, b ≠ e → h1.get? b = some o → h'.get? b = some o) → Q (some (.ref h1.objs.size)) (stAt s h' (tk + 1))) :
    wpAny (model prog w) A (pyNext (.ref e)) Q E s := by
  have hT : s.TypeIs (.ref e) "enumerate" := ⟨_, he, rfl⟩
  unfold pyNext
  exact wpAny_bind (wpAny_attempt (wpAny_callSpecial?_slot (name := Str.ofString "__next__") hT F.slot_enumerate_next (wpAny_call_entry F.slot_enumerate_next hT F.entry_enumerate_next (enumI_next he (inner _) fun x h1 h' tk a b c d f g => wpAny_pure (hQ x h1 h' tk a b c d f g)) (F.args_enumerate_next_1 _))))
theorem enumI_stop {e it : Addr} {c : Int} {old : Value} {Q : Option Value → Shared → Prop} {R : Heap → Prop} (he : IsEnum s.heap e it c old)
    (inner : ∀ (Q' E' : Value → Shared → Prop), (∀ h' x, (∃ o, h'.get? x = some o ∧ o.cls = .type "StopIteration") → R h' → E' (.ref x) (stAt s h' s.toks)) → wpAny (model prog w) A.in1 (Builtin.SmallTypes.nextOf (.ref it)) Q' E' s)
    (hQ : ∀ h', R h' → Q none (stAt s h' s.toks)) : wpAny (model prog w) A (pyNext (.ref e)) Q E s := by
  have hT : s.TypeIs (.ref e) "enumerate" := ⟨_, he, rfl⟩
  unfold pyNext
  refine wpAny_bind (wpAny_attempt (wpAny_callSpecial?_slot (name := Str.ofString "__next__") hT F.slot_enumerate_next (wpAny_call_entry F.slot_enumerate_next hT F.entry_enumerate_next ?_ (F.args_enumerate_next_1 _))))
  show wpAny _ _ (field (.ref e) 2 >>= _) _ _ _
  refine wpAny_bind (wpAny_field he rfl (x := .ref it) rfl ?_)
  refine wpAny_bind (inner _ _ fun h' x ⟨o, ho, hc⟩ hr => ?_)
  refine wpAny_bind (wpAny_isInstance (T := "StopIteration") (b := true) ⟨o, ho, hc⟩ isSubtype_stop ?_)
  exact wpAny_pure (hQ _ hr)
/-- enumerate(z): one new cell, the zip itself is walked -/
theorem meets_enumZ (z TI TO : Addr) (f0 : Value) (f : Bool) :
    Meets (Builtin.«enumerate.__new__» ⟨[.type "enumerate", .ref z], []⟩) (fun _ R s => s.heap.get? z = some (zObj f0 f TI TO) ∧
      R (.ok (.ret (.ref s.heap.objs.size))) { s with heap := s.heap.push { cls := .type "enumerate", data := .fields #[.none, .bool false, .ref z, rawInt 0, .none, .none] } }) :=
  .of_wp fun prog w A R s h => by
    obtain ⟨hp, g, d, tk, os⟩ := s
    obtain ⟨hz, h⟩ := h
    have hsub := sub_enumerate
    have q1 : ∀ {A' : Around} {E : Value → Shared → Prop} {Q : Value → Shared → Prop}, Q (.ref z) ⟨hp, g, d, tk, os⟩ → wpAny (model prog w) A' (pyIter (.ref z)) Q E ⟨hp, g, d, tk, os⟩ := fun q => iterN (s := ⟨hp, g, d, tk, os⟩) hz q
    wp_walk using q1
    refine wpAny_stack_any fun st => wpAny_pure ?_
    split
    · rename_i c _ _ _ _ _
      cases (c == Value.type "enumerate")
      · wp_walk using q1
        exact ⟨_, rfl, h⟩
      · wp_walk using q1
        exact ⟨_, rfl, h⟩
    · wp_walk using q1
      exact ⟨_, rfl, h⟩
theorem call_enumZ {z TI TO : Addr} {f0 : Value} {f : Bool} {Q : Value → Shared → Prop} (hz : s.heap.get? z = some (zObj f0 f TI TO))
    (h : ∀ h', IsEnum h' s.heap.objs.size z 0 .none → h'.objs.size = s.heap.objs.size + 1 → (∀ b o, s.heap.get? b = some o → h'.get? b = some o) → Q (.ref s.heap.objs.size) { s with heap := h' }) :
    wpAny (model prog w) A (call (.type "enumerate") [.ref z]) Q E s := by
  refine callType_new F.called_enumerate (by decide) (F.typeCall_enumerate_1 _) (F.newCall_enumerate_1 _) (fun obj => F.args_object_init_2 obj _) F.entry_enumerate_new (meets_enumZ z TI TO f0 f) ⟨hz, ?_⟩
  have he : IsEnum (s.heap.push { cls := .type "enumerate", data := .fields #[.none, .bool false, .ref z, rawInt 0, .none, .none] }) s.heap.objs.size z 0 .none := Heap.get?_push_size _ rfl
  exact ⟨⟨_, he, rfl⟩, h _ he (Heap.size_push _ _) fun b o x => Heap.get?_push_of_some _ x⟩
end
end Pf

set_option maxHeartbeats 1000000
namespace Pf
open PySem PySem.Spec PyProof.Rows L2
def ItEZ (K : PySem.W.Frag) (cs : List (Bool × Addr)) : It :=
  ⟨(ItzN K cs).go,
    fun i H v H' => ∃ T2 T xs, v = .ref T ∧ H T2 = none ∧ upd H T2 (.tup xs) T = none ∧ H' = upd (upd H T2 (.tup xs)) T (.tup [.int (i : Nat), .ref T2]) ∧ xs.length = cs.length ∧ ∀ (k : Nat) (c : Bool × Addr) (x : V), cs[k]? = some c → xs[k]? = some x → ∀ ys, SqG c.1 K H c.2 ys → ys[i]? = some x,
    (ItzN K cs).stop⟩
section
variable {prog : Program} {w : World} {A : Around} {z TI TO : Addr} {js : List Addr} {fp : Nat → List Addr} {P : Nat → Value → Prop} {St St' : Nat → Heap → Prop}
theorem nextOfN_item (Z : ZN prog w A.in1 z TI TO js fp P St St') {s : Shared} {f0 : Value} {f : Bool} {os : List Value} (hz : s.heap.get? z = some (zObj f0 f TI TO)) (hf : f0 = .none ∨ ∃ T : Addr, f0 = rawInt T)
    (hTI : s.heap.get? TI = some (tObj (js.map .ref))) (hTO : s.heap.get? TO = some (tObj os)) (hos : os.length = js.length) (hst : ∀ k, k < js.length → St k s.heap) (hne : js ≠ []) (hsz : js.length ≤ 1000) {E : Value → Shared → Prop} {Q : Value → Shared → Prop}
    (hQ : ∀ (vals os' : List Value) (h' : Heap) (tk : Nat) (f0' : Value) (f' : Bool), (f0' = .none ∨ ∃ T : Addr, f0' = rawInt T) → vals.length = js.length → os'.length = js.length → (∀ k x, vals[k]? = some x → P k x) → (∀ k, k < js.length → St' k h') → h'.get? z = some (zObj f0' f' TI TO) → h'.get? TO = some (tObj os') → h'.get? s.heap.objs.size = some (tObj vals) → h'.objs.size = s.heap.objs.size + 1 → (∀ c o, c ≠ z → c ≠ TO → c ∉ js → s.heap.get? c = some o → h'.get? c = some o) → Q (.ref s.heap.objs.size) { heap := h', gens := s.gens, drawn := s.drawn, toks := tk, os := s.os }) :
    wpAny (model prog w) A (Builtin.SmallTypes.nextOf (.ref z)) Q E s := by
  unfold Builtin.SmallTypes.nextOf
  have ty : s.TypeIs (.ref z) "zip" := ⟨_, hz, rfl⟩
  refine wpAny_bind (wpAny_callSpecial?_slot ty F.slot_zip_next (wpAny_call_entry F.slot_zip_next ty F.entry_zip_next ?_))
  exact zipN_next Z hz hf hTI hTO hos hst hne hsz fun vals os' h' tk f0' f' a1 a2 a3 a4 a5 a6 a7 a8 a9 a10 => wpAny_pure (hQ vals os' h' tk f0' f' a1 a2 a3 a4 a5 a6 a7 a8 a9 a10)
theorem nextOfN_stop {j0 : Addr} {jr : List Addr} {f0 : Value} {f : Bool} {os : List Value} {s : Shared} (hz : s.heap.get? z = some (zObj f0 f TI TO)) (hf : f0 = .none ∨ ∃ T : Addr, f0 = rawInt T)
    (hTI : s.heap.get? TI = some (tObj ((j0 :: jr).map .ref))) (hTO : s.heap.get? TO = some (tObj os)) (hzj : z ≠ j0) {S0 : Heap → Prop} (h0 : S0 s.heap) (hk : ∀ h, Heap.SameBut z s.heap h → S0 h)
    (hd : ∀ (s : Shared) (Q E : Value → Shared → Prop), S0 s.heap → (∀ h' e, Heap.ExtBut j0 s.heap h' → (∃ o, h'.get? e = some o ∧ o.cls = .type "StopIteration") → E (.ref e) { heap := h', gens := s.gens, drawn := s.drawn, toks := s.toks, os := s.os }) → wpAny (model prog w) A.in1 (Builtin.SmallTypes.nextOf (.ref j0)) Q E s)
    {E : Value → Shared → Prop} {Q : Value → Shared → Prop}
    (hQ : ∀ h' e, (∃ o, h'.get? e = some o ∧ o.cls = .type "StopIteration") → (∀ c o, c ≠ z → c ≠ j0 → s.heap.get? c = some o → h'.get? c = some o) → E (.ref e) { heap := h', gens := s.gens, drawn := s.drawn, toks := s.toks, os := s.os }) :
    wpAny (model prog w) A (Builtin.SmallTypes.nextOf (.ref z)) Q E s := by
  unfold Builtin.SmallTypes.nextOf
  have ty : s.TypeIs (.ref z) "zip" := ⟨_, hz, rfl⟩
  refine wpAny_bind (wpAny_callSpecial?_slot ty F.slot_zip_next (wpAny_call_entry F.slot_zip_next ty F.entry_zip_next ?_))
  exact zipN_stop hz hf hTI hTO hzj h0 hk hd fun h' e x1 x2 => hQ h' e x2 x1
end
theorem turn_enuZ {P : Program} {w : World} {K : PySem.W.Frag} {elts : List Expr} {kk : Nat} {tpos : Pos} {e z TI TO : Addr} {js : List Addr} {cs : List (Bool × Addr)} (D : ZApart z TI TO js cs) (ez : e ≠ z) (eI : e ≠ TI) (eO : e ≠ TO) (ej : e ∉ js) :
    Turn P w K (.Tuple elts kk tpos) (ItEZ K cs) (e :: z :: TI :: TO :: js) e (fun i h => (∃ old, IsEnum h e z (i : Nat) old) ∧ ztn z TI TO js cs i h) := by
  have mem : ∀ b, b ∈ e :: z :: TI :: TO :: js → b = e ∨ b = z ∨ b = TI ∨ b = TO ∨ b ∈ js := fun b hb => by simpa using hb
  have iter : ∀ {i : Nat} {h : Heap}, (∀ k, k < js.length → ZSt' cs js i k h) → ∀ b ∈ js, ∃ (c : Bool × Addr) (k : Nat), cs[k]? = some c ∧ js[k]? = some b ∧ ItG c.1 h b c.2 i := fun {i h} st b he => by
    obtain ⟨k, hk, ek⟩ := List.getElem_of_mem he
    obtain ⟨c, j, e1, e2, e3⟩ := st k hk
    have e4 : js[k]? = some b := by rw [List.getElem?_eq_getElem hk, ek]
    cases e4.symm.trans e2
    exact ⟨c, k, e1, e4, e3⟩
  have zkeep : ∀ {i : Nat} {h h' : Heap}, ztn z TI TO js cs i h → (∀ b o, b ≠ e → h.get? b = some o → h'.get? b = some o) → ztn z TI TO js cs i h' := fun {i h h'} ⟨f0, f, os, q0, q1, q2, q3, q4, q5⟩ k => by
    refine ⟨f0, f, os, q0, k z _ ez.symm q1, k TI _ eI.symm q2, k TO _ eO.symm q3, q4, fun m hm => ?_⟩
    obtain ⟨c, j, e1, e2, e3⟩ := q5 m hm
    exact ⟨c, j, e1, e2, e3.carry fun o q => k j o (fun y => ej (y ▸ List.mem_of_getElem? e2)) q⟩
  refine ⟨by simp, fun i h st b hb => ?_, fun i h h' st k => ?_, ?_, ?_, fun A i s Q E st h => ?_⟩
  · obtain ⟨⟨old, he⟩, f0, f, os, q0, q1, q2, q3, q4, q5⟩ := st
    rcases mem b hb with q | q | q | q | q
    · exact ⟨_, q ▸ he, fun v q => by cases q⟩
    · exact ⟨_, q ▸ q1, fun v q => by cases q⟩
    · exact ⟨_, q ▸ q2, fun v q => by cases q⟩
    · exact ⟨_, q ▸ q3, fun v q => by cases q⟩
    · obtain ⟨c, k, _, _, e3⟩ := iter q5 b q
      exact e3.obj
  · obtain ⟨⟨old, he⟩, f0, f, os, q0, q1, q2, q3, q4, q5⟩ := st
    refine ⟨⟨old, k e (by simp) _ he⟩, f0, f, os, q0, k z (by simp) _ q1, k TI (by simp) _ q2, k TO (by simp) _ q3, q4, fun m hm => ?_⟩
    obtain ⟨c, j, e1, e2, e3⟩ := q5 m hm
    exact ⟨c, j, e1, e2, e3.carry fun o q => k j (by simp [List.mem_of_getElem? e2]) o q⟩
  · intro X hP hw hK hc i pins s σ H E I hf st hg
    subst hP hw hK
    obtain ⟨⟨old, he⟩, f0, f, os, q0, q1, q2, q3, q4, q5⟩ := st
    have hh : X.A.in1.in1.handled = none := I.ok.hd hc
    have Z := zn_of (prog := X.prog) (w := X.w) hh D i fun k v => ∃ c xs x, cs[k]? = some c ∧ SqG c.1 X.K H c.2 xs ∧ xs[i]? = some x ∧ RelV x v
    refine enumI_item (R := fun v h1 => v = .ref s.heap.objs.size ∧ h1.objs.size = s.heap.objs.size + 1 ∧ (∃ vals : List Value, vals.length = js.length ∧ h1.get? s.heap.objs.size = some (tObj vals) ∧ ∀ (k : Nat) (x : Value), vals[k]? = some x → ∃ (c : Bool × Addr) (xs : List V) (y : V), cs[k]? = some c ∧ SqG c.1 X.K H c.2 xs ∧ xs[i]? = some y ∧ RelV y x) ∧
        ztn z TI TO js cs (i + 1) h1 ∧ ∀ c o, c ≠ z → c ≠ TO → c ∉ js → s.heap.get? c = some o → h1.get? c = some o) he (fun E' Q' hin => ?_) fun v h1 h' tk he1 ⟨ev, sz1, ⟨vals, lv, gv, hv⟩, zt, k1⟩ he' gT sz' k' => ⟨_, rfl, ?_⟩
    · refine nextOfN_item Z q1 q0 q2 q3 q4 (fun k hk => ?_) D.ne D.sz fun vals os' h' tk f0' f' a1 a2 a3 a4 a5 a6 a7 a8 a9 a10 => hin _ h' tk ((a10 e _ ez eO ej he)) ⟨rfl, a9, ⟨vals, a2, a8, a4⟩, ⟨f0', f', os', a1, a6, a10 TI _ D.TIz D.TITO D.TIj q2, a7, a3, a5⟩, a10⟩
      obtain ⟨c, j, e1, e2, e3⟩ := q5 k hk
      obtain ⟨xs, x, mx, gx⟩ := hg c (List.mem_of_getElem? e1)
      obtain ⟨us, rx, px, _⟩ := inv_G I mx
      obtain ⟨u, hu, ru⟩ := rx.get gx
      exact ⟨c, j, us.toArray, e1, e2, e3, px, u, by rw [show us.toArray[i]? = us[i]? by simp]; exact hu, c, xs, x, e1, mx, gx, ru⟩
    · subst ev
      obtain ⟨xs, rs, hx⟩ := vals_pick (R := fun k x v => ∃ c zs, cs[k]? = some c ∧ SqG c.1 X.K H c.2 zs ∧ zs[i]? = some x) (vs := vals) 0 fun k v hv' => by
        obtain ⟨c, zs, x, e1, e2, e3, e4⟩ := hv k v hv'
        exact ⟨x, e4, c, zs, by rw [Nat.zero_add]; exact e1, e2, e3⟩
      have lx : xs.length = cs.length := rs.length.trans (lv.trans D.len)
      have hf' : ∀ b ∈ z :: TI :: TO :: js, FpOk X pins H b := fun b hb => hf b (List.mem_cons_of_mem _ hb)
      have ok1 : ObjOk X.prog X.w (upd H s.heap.objs.size (.tup xs)) h1 s.heap.objs.size (.tup xs) := ⟨by rw [lx, ← D.len]; exact Nat.le_trans D.sz (by decide), vals, rs, ⟨_, gv, rfl, _, rfl⟩⟩
      have I1 : Inv X pins σ (upd H s.heap.objs.size (.tup xs)) { s with heap := h1, toks := tk } := by
        refine I.turnedNew (t' := tk) (ch := z :: TI :: TO :: js) (fun b o hb q => k1 b o ?_ ?_ ?_ q) hf' (Nat.le_refl _) ok1 <;> exact fun q' => hb (by simp [q'])
      have el : e < s.heap.objs.size := Heap.lt_size he
      refine wpAny_letOwnedTupleGo_enum (s := stAt s h' (tk + 1)) he' fun g he'' sb => ?_
      have up : ∀ b o, b ≠ e → h'.get? b = some o → g.get? b = some o := fun b o ne q => (sb.2 b ne).trans q
      have fe : FpOk X pins (upd H s.heap.objs.size (.tup xs)) e := by
        have := hf e (by simp)
        exact ⟨by rw [upd_ne (Nat.ne_of_lt el)]; exact this.1, this.2.1, this.2.2.1, this.2.2.2.1, this.2.2.2.2⟩
      have gT' : g.get? h1.objs.size = some { cls := .type "tuple", data := .seq #[.int (i : Nat) tk, .ref s.heap.objs.size] } := up h1.objs.size _ (Nat.ne_of_gt (by rw [sz1]; exact Nat.lt_succ_of_lt el)) gT
      have ok2 : ObjOk X.prog X.w (upd (upd H s.heap.objs.size (.tup xs)) h1.objs.size (.tup [.int (i : Nat), .ref s.heap.objs.size])) g h1.objs.size (.tup [.int (i : Nat), .ref s.heap.objs.size]) :=
        ⟨by show 2 ≤ sizeLine; decide, [.int (i : Nat) tk, .ref s.heap.objs.size], .cons ⟨tk, rfl⟩ (.cons rfl .nil), ⟨_, gT', rfl, _, rfl⟩⟩
      have I2 : Inv X pins σ (upd (upd H s.heap.objs.size (.tup xs)) h1.objs.size (.tup [.int (i : Nat), .ref s.heap.objs.size])) { s with heap := g, toks := tk + 1 } := by
        refine I1.turnedNew (t' := tk + 1) (ch := [e]) (fun b o hb q => up b o ?_ (k' b o ?_ q)) (fun b hb => by rw [List.mem_singleton.mp hb]; exact fe) (Nat.le_refl _) ok2 <;> exact fun q' => hb (by simp [q'])
      have hT2 : upd H s.heap.objs.size (.tup xs) h1.objs.size = none := I1.hok.fresh (Nat.le_refl _)
      refine ⟨.ref h1.objs.size, _, I2, rfl, ⟨s.heap.objs.size, h1.objs.size, xs, rfl, I.hok.fresh (Nat.le_refl _), hT2, rfl, lx, fun k c x ec ex ys hy => ?_⟩, ⟨⟨.ref s.heap.objs.size, ?_⟩, ?_⟩, fun b hb => ?_⟩
      · obtain ⟨v, hv', c', zs, e1, e2, e3⟩ := hx k x ex
        rw [Nat.zero_add] at e1
        cases ec.symm.trans e1
        rw [inv_G_inj I hy e2]
        exact e3
      · have e1 : (((i : Nat) : Int) + 1) = ((i + 1 : Nat) : Int) := by omega
        rw [← e1]
        exact he''
      · exact zkeep zt fun b o hb q => up b o hb (k' b o hb q)
      · have bl : b < s.heap.objs.size := by
          rcases mem b hb with q | q | q | q | q
          · exact q ▸ el
          · exact q ▸ Heap.lt_size q1
          · exact q ▸ Heap.lt_size q2
          · exact q ▸ Heap.lt_size q3
          · obtain ⟨c, k, _, _, e3⟩ := iter q5 b q
            obtain ⟨o, ho, _⟩ := e3.obj
            exact Heap.lt_size ho
        rw [upd_ne (Nat.ne_of_lt (by rw [sz1]; exact Nat.lt_succ_of_lt bl)), upd_ne (Nat.ne_of_lt bl)]
        exact (hf b hb).1
  · intro X hP hw hK hc i pins s σ H E I hf st hg
    subst hP hw hK
    obtain ⟨⟨old, he⟩, f0, f, os, q0, q1, q2, q3, q4, q5⟩ := st
    obtain ⟨c0, cr, xs, ec, mx, fin⟩ := hg
    obtain ⟨us, rx, px, _⟩ := inv_G I mx
    have hh : X.A.in1.in1.handled = none := I.ok.hd hc
    obtain ⟨j0, jr, ejs⟩ : ∃ j0 jr, js = j0 :: jr := match js, D.ne with | j0 :: jr, _ => ⟨j0, jr, rfl⟩
    obtain ⟨c, j, e1, e2, e3⟩ := q5 0 (by rw [ejs]; exact Nat.succ_pos _)
    rw [ec] at e1
    cases e1
    rw [ejs] at e2
    cases e2
    have hcj : c0.2 ≠ j0 := fun q => (D.cz c0 (by rw [ec]; simp)).2.2.2 (q ▸ by rw [ejs]; simp)
    have hzj : z ≠ j0 := fun q => D.zj (q ▸ by rw [ejs]; simp)
    obtain ⟨m, Pm, St, Dr, st0, _, lm⟩ := drawAt c0.1 (prog := X.prog) (w := X.w) hh j0 c0.2 hcj us.toArray i e3 px
    have hm : i = m := lm (by rw [List.size_toArray, ← rx.length]; exact fin)
    subst hm
    rw [ejs] at q2
    refine enumI_stop (R := fun h' => ∀ c o, c ≠ z → c ≠ j0 → s.heap.get? c = some o → h'.get? c = some o) he (fun Q' E' hin => ?_) fun h' hk => ⟨rfl, ?_⟩
    · refine nextOfN_stop q1 q0 q2 q3 hzj (S0 := St i) st0 (fun h sb => Dr.frame i _ _ st0 fun b hb o e => (sb.2 b fun q => ?_).trans e) (fun s Q E hs hE => Dr.done s Q E hs hE) fun h' x a b => hin h' x a b
      simp only [List.mem_cons, List.not_mem_nil, or_false] at hb
      rcases hb with rfl | rfl
      · exact hzj q.symm
      · exact (D.cz c0 (by rw [ec]; simp)).1 q
    · refine I.turnedL (t' := s.toks) (ch := e :: z :: TI :: TO :: js) (fun b o hb q => hk b o ?_ ?_ q) hf
      · exact fun q' => hb (by simp [q'])
      · exact fun q' => hb (by rw [ejs]; simp [q'])
  · obtain ⟨⟨old, he⟩, _⟩ := st
    exact wpAny_pyIter_enum he h
/-! ### enumerate(zip(a, b)), walked with (i, (x, y)) -/
def iEnuZ (K : PySem.W.Frag) (ta : TA) : TI := fun σ H R => ta σ H fun vs H1 => ∃ c d a b xs ys, vs = [.ref a, .ref b] ∧ SqG c K H1 a xs ∧ SqG d K H1 b ys ∧ xs.length ≤ ys.length ∧ R (ItEZ K [(c, a), (d, b)]) H1
theorem pi_enuZ {X : Cx} {e e2 : Expr} {ta : TA} {p p2 pos pos2 tpos : Pos} {elts : List Expr} {kk : Nat} (hgE : Gl X "enumerate") (hmE : X.mg "enumerate" = none) (hg : Gl X "zip") (hm : X.mg "zip" = none) (ha : PA X [e, e2] ta)
    (hs : starEach [e, e2] X.env = (false, eval e X.env) :: starEach [e2] X.env) (hpl : (backTo pos2 (starEach [e2] X.env)).any (·.1) = false)
    (hsE : starEach [.Call (.Name "zip" p2) [e, e2] [] pos2] X.env = [(false, eval (.Call (.Name "zip" p2) [e, e2] [] pos2) X.env)] := by rfl) :
    PI X (.Tuple elts kk tpos) (.Call (.Name "enumerate" p) [.Call (.Name "zip" p2) [e, e2] [] pos2] [] pos) (iEnuZ X.K ta) := by
  constructor
  intro pins s σ H R I h
  refine Call_ (ld_blt I hgE hmE boot_enumerate (PyProof.Rows.callWith_type1 ?_ hsE rfl))
  rw [hsE]
  show wpAny _ _ (spliced [(false, eval (.Call (.Name "zip" p2) [e, e2] [] pos2) X.env)]) _ _ s
  refine Calls.spliced_cons ?_
  refine Call_ (ld_blt I hg hm PyProof.Rows.boot_zip (PyProof.Rows.callWith_type1 (thn (ha.run pos2 pins s σ H _ I h) ?_) hs hpl))
  intro us s1 ⟨vs, H1, I1, r1, q1⟩
  obtain ⟨c, d, a, b, xs, ys, ex, mx, my, hl, q⟩ := q1
  subst ex
  cases r1 with
  | cons r rr =>
   cases rr with
   | cons r' rr =>
    cases rr
    cases r
    cases r'
    obtain ⟨its, rv, px, la⟩ := inv_G I1 mx
    obtain ⟨its2, rv2, py, lb⟩ := inv_G I1 my
    refine zip_begins2 (begG c a its.toArray) (begG d b its2.toArray) px py fun h' z1 z2 z3 z4 z5 hsz hk => Calls.spliced_nil ?_
    have I2 : Inv X pins σ H1 { s1 with heap := h' } := I1.kept (t' := s1.toks) hk
    refine call_enumZ (s := { s1 with heap := h' }) (f0 := .none) (f := false) z1 fun h2 he hsz2 hk2 => wpAny_pyIter_enum he ?_
    have I3 : Inv X pins σ H1 { s1 with heap := h2 } := I2.kept (t' := s1.toks) hk2
    have D : ZApart (s1.heap.objs.size + 4) (s1.heap.objs.size + 2) (s1.heap.objs.size + 3) [s1.heap.objs.size, s1.heap.objs.size + 1] [(c, a), (d, b)] := {
      len := rfl
      ne := by simp
      sz := by show 2 ≤ 1000; decide
      nd := fun k l j h1 h2 => by
        match k, l with
        | 0, 0 => rfl
        | 1, 1 => rfl
        | 0, 1 =>
          cases h1
          have : s1.heap.objs.size + 1 = s1.heap.objs.size := Option.some.inj h2
          omega
        | 1, 0 =>
          cases h2
          have : s1.heap.objs.size + 1 = s1.heap.objs.size := Option.some.inj h1
          omega
        | k + 2, _ => simp at h1
        | _, l + 2 => simp at h2
      TIz := by show s1.heap.objs.size + 2 ≠ _; omega
      TITO := by show s1.heap.objs.size + 2 ≠ _; omega
      TIj := by simp
      TOz := by show s1.heap.objs.size + 3 ≠ _; omega
      zj := by simp
      TOj := by simp
      cz := fun x hx => by
        have : x.2 < s1.heap.objs.size := by
          rcases List.mem_cons.mp hx with rfl | hx
          · exact la
          · rw [List.mem_singleton.mp hx]
            exact lb
        refine ⟨Nat.ne_of_lt (Nat.lt_add_right 4 this), Nat.ne_of_lt (Nat.lt_add_right 2 this), Nat.ne_of_lt (Nat.lt_add_right 3 this), fun y => ?_⟩
        rcases List.mem_cons.mp y with q | q
        · exact absurd q (Nat.ne_of_lt this)
        · exact absurd (List.mem_singleton.mp q) (Nat.ne_of_lt (Nat.lt_succ_of_lt this)) }
    have hz5 : h'.objs.size = s1.heap.objs.size + 5 := hsz
    have q1 := hk2 _ _ z1
    have q2 := hk2 _ _ z2
    have q3 := hk2 _ _ z3
    refine ⟨h'.objs.size, h'.objs.size :: (s1.heap.objs.size + 4) :: (s1.heap.objs.size + 2) :: (s1.heap.objs.size + 3) :: [s1.heap.objs.size, s1.heap.objs.size + 1], _, _, H1, rfl, I3, turn_enuZ D (Nat.ne_of_gt (show s1.heap.objs.size + 4 < h'.objs.size by omega)) (Nat.ne_of_gt (show s1.heap.objs.size + 2 < h'.objs.size by omega)) (Nat.ne_of_gt (show s1.heap.objs.size + 3 < h'.objs.size by omega)) (fun y => by
      rcases List.mem_cons.mp y with q | q
      · exact absurd q (Nat.ne_of_gt (show s1.heap.objs.size < h'.objs.size by omega))
      · exact absurd (List.mem_singleton.mp q) (Nat.ne_of_gt (show s1.heap.objs.size + 1 < h'.objs.size by omega))), ⟨⟨.none, he⟩, .none, false, [.none, .none], .inl rfl, q1, q2, q3, rfl, fun k hk3 => ?_⟩, fun e he => ?_, q⟩
    · match k, hk3 with
      | 0, _ => exact ⟨(c, a), s1.heap.objs.size, rfl, rfl, (ItG.new z4).carry fun o q => hk2 _ o q⟩
      | 1, _ => exact ⟨(d, b), s1.heap.objs.size + 1, rfl, rfl, (ItG.new z5).carry fun o q => hk2 _ o q⟩
    · have le : s1.heap.objs.size ≤ e := by
        rcases (show e = h'.objs.size ∨ e = s1.heap.objs.size + 4 ∨ e = s1.heap.objs.size + 2 ∨ e = s1.heap.objs.size + 3 ∨ e = s1.heap.objs.size ∨ e = s1.heap.objs.size + 1 by simpa using he) with q | q | q | q | q | q
        · rw [q, hz5]
          exact Nat.le_add_right _ 5
        · exact q ▸ Nat.le_add_right _ 4
        · exact q ▸ Nat.le_add_right _ 2
        · exact q ▸ Nat.le_add_right _ 3
        · exact q ▸ Nat.le_refl _
        · exact q ▸ Nat.le_add_right _ 1
      exact I1.fpOk le (I1.hok.fresh le)
theorem wk_enuZ {c d : Bool} {K : PySem.W.Frag} {W : Wd} {a b : Addr} {vs us : List V} {ds es : List PyData} (h : SqG c K W.S a vs) (r : Dqs K W.S vs ds) (h2 : SqG d K W.S b us) (r2 : Dqs K W.S us es) (hl : ds.length ≤ es.length) : Wk K (ItEZ K [(c, a), (d, b)]) W (enuD (zipD ds es)) where
  go := fun i x W1 H μ g R e => by
    obtain ⟨y, e0, rfl⟩ := enu_at e
    obtain ⟨d1, d2, e1, e2, rfl⟩ := zip_at e0
    obtain ⟨v, a1, _⟩ := r.getD e1
    obtain ⟨u, a2, _⟩ := r2.getD e2
    intro x hx
    rcases List.mem_cons.mp hx with rfl | hx
    · exact ⟨vs, v, (h.mono g).mono R.sub, a1⟩
    · rw [List.mem_singleton.mp hx]
      exact ⟨us, u, (h2.mono g).mono R.sub, a2⟩
  yld := fun i x W1 H μ v H' g R e y => by
    obtain ⟨y0, e0, rfl⟩ := enu_at e
    obtain ⟨d1, d2, e1, e2, rfl⟩ := zip_at e0
    obtain ⟨T2, T, xs, rfl, nT2, nT, rfl, lx, hx⟩ := y
    obtain ⟨x1, x2, rfl⟩ : ∃ x1 x2, xs = [x1, x2] := match xs, lx with | [x1, x2], _ => ⟨x1, x2, rfl⟩
    obtain ⟨v, a1, q1⟩ := r.getD e1
    obtain ⟨u, a2, q2⟩ := r2.getD e2
    have z1 := hx 0 (c, a) x1 rfl rfl vs ((h.mono g).mono R.sub)
    have z2 := hx 1 (d, b) x2 rfl rfl us ((h2.mono g).mono R.sub)
    rw [a1] at z1
    rw [a2] at z2
    cases z1
    cases z2
    obtain ⟨W2, g2, R2, t2⟩ := pair_new R nT2 (Dq.mono g q1) (Dq.mono g q2)
    obtain ⟨W3, g3, R3, t3⟩ := pair_new R2 nT (.int (i : Nat)) t2
    exact ⟨W3, g2.trans g3, R3, t3⟩
  stop := fun i W1 H μ g R e => ⟨(c, a), [(d, b)], vs, rfl, (h.mono g).mono R.sub, by
    rw [r.len]
    rw [enu_len] at e
    rcases zip_len e with z | z
    · exact z
    · omega⟩
def enZ (d e : PyData) : Option (List PyData) := match sqKind d, sqKind e with
  | some x, some y => if x.2.length ≤ y.2.length then some (enuD (zipD x.2 y.2)) else none
  | _, _ => none
def enuZ (Fa Fb : Rho → M Sv) (ρ : Rho) : M (List PyData) := (Fa ρ).bind fun s => (Fb ρ).bind fun t => match s, t with
  | .dat d, .dat e => orFail (enZ d e)
  | _, _ => M.fail
section
variable {X : Cx} {E : XK} {a b : Expr} {Fa Fb : Rho → M Sv} {pos p p2 pos2 tpos : Pos}
theorem i_enuZ {elts : List Expr} {kk : Nat} (hgE : Gl X "enumerate") (hmE : X.mg "enumerate" = none) (hg : Gl X "zip") (hm : X.mg "zip" = none) (ha : PX X E a Fa) (hb : PX X E b Fb) (hs : starEach [a, b] X.env = (false, eval a X.env) :: starEach [b] X.env := by rfl) (hs2 : starEach [b] X.env = (false, eval b X.env) :: starEach [] X.env := by rfl) (hpl : (backTo pos2 (starEach [b] X.env)).any (·.1) = false := by rfl)
    (hsE : starEach [.Call (.Name "zip" p2) [a, b] [] pos2] X.env = [(false, eval (.Call (.Name "zip" p2) [a, b] [] pos2) X.env)] := by rfl) :
    PIX X E (.Tuple elts kk tpos) (.Call (.Name "enumerate" p) [.Call (.Name "zip" p2) [a, b] [] pos2] [] pos) (enuZ Fa Fb) := pi_weak (pi_enuZ hgE hmE hg hm (pa_cons ha (pa_cons hb pa_nil hs2) hs) hs hpl hsE) fun σ H R ⟨W, ρ, μ, r, h, e, q⟩ => by
  refine tX_bind h e q fun v s W1 H1 μ1 g1 h1 rs e1 q1 => tX_bind h1 e1 q1 fun u t W2 H2 μ2 g2 h2 rt e2 q2 => ?_
  have rs' := rs.grow g2
  split at e2
  · rename_i d e
    cases ez : enZ d e with
    | none =>
      rw [ez] at e2
      cases e2
    | some ds =>
    rw [ez] at e2
    cases e2
    unfold enZ at ez
    split at ez
    · rename_i x y hx hy
      obtain ⟨c1, xs⟩ := x
      obtain ⟨c2, ys⟩ := y
      split at ez
      · rename_i hl
        cases ez
        obtain ⟨a1, vs, rfl, m1, r1⟩ := Dq.sq rs' hx
        obtain ⟨a2, us, rfl, m2, r2⟩ := Dq.sq rt hy
        exact ⟨c1, c2, _, _, _, _, rfl, m1.mono h2.rel.sub, m2.mono h2.rel.sub, by rw [r1.len, r2.len]; exact hl, q2 _ _ (Grow.refl _ _ _) h2.rel _ (wk_enuZ m1 r1 m2 r2 hl)⟩
      · cases ez
    · cases ez
  · cases e2
end
end Pf

namespace Pf
open PySem PySem.Spec PyProof.Rows L2
theorem w_enZ {l l1 l2 : En} {Fa Fb : Rho → M Sv} {ta tb : S PyData} (ha : Jd l Fa ta (pV l1)) (hb : Jd l1 Fb tb (pV l2)) : Jd l (enuZ Fa Fb) (ta.bind fun a => tb.bind fun b => S.lift (enZ a b)) (pL l2) := fun k rest ρ μ e => by
  refine (ha k rest ρ μ e).bind fun k1 μ1 a da ⟨z, e1⟩ => ?_
  subst z
  refine (hb k1 rest ρ μ1 e1).bind fun k2 μ2 b db ⟨z, e2⟩ => ?_
  subst z
  refine Jl.lift fun ds q => ?_
  refine ⟨_, μ2, ?_, rfl, e2⟩
  show orFail (enZ da db) μ2 = _
  rw [q]
  rfl
end Pf

set_option maxHeartbeats 1000000
namespace Pf
open PySem PySem.Spec PyProof.Rows L2
noncomputable def T_distances_of (a0 : PyData) : S PyData :=
  ((((((S.ret (PyData.int 0)).bind fun x1 => (S.ret []).bind fun as2 => S.ret (x1 :: as2)).bind fun as3 => S.ret (PyData.list as3)).bind fun x4 => (S.ret []).bind fun as5 => S.ret (x4 :: as5)).bind fun as6 => S.ret (PyData.list as6)).bind fun v7 =>
  ((((S.ret a0).bind fun x8 => S.lift (seqD x8)).bind fun ds17 => S.foldM (fun (s9 : PyData) d10 => ((S.lift (un2 d10)).bind fun p12 => (S.ret p12.1).bind fun s13 => (S.ret p12.2).bind fun s15 => S.ret (s13, s15)).bind fun t11 => (((((S.ret s9).bind fun x18 => (S.ret t11.1).bind fun x19 => S.lift (oIx x18 x19)).bind fun x20 => S.lift (seqD x20)).bind fun ds23 => (S.lift (szD ds23)).bind fun _ => (S.mapM (fun d21 => S.noEx ((S.ret d21).bind fun s22 => ((S.ret s22).bind fun x25 => (S.ret t11.2).bind fun x26 => S.lift (oAdd x25 x26)))) ds23).bind fun xs24 => S.ret (PyData.list xs24)).bind fun v27 =>
  (((((S.ret s9).bind fun x28 => S.lift ((seqD x28).map enuD)).bind fun ds36 => (S.lift (szD ds36)).bind fun _ => (S.mapM (fun d29 => S.noEx (((S.lift (un2 d29)).bind fun p30 => (S.ret p30.1).bind fun s31 => (S.ret p30.2).bind fun s33 => S.ret (s31, s33)).bind fun s35 => ((S.ret s35.2).bind fun x43 => ((((S.ret v27).bind fun x38 => (S.ret s35.1).bind fun x39 => S.lift (oIx x38 x39)).bind fun x40 => (S.ret []).bind fun as41 => S.ret (x40 :: as41)).bind fun as42 => S.ret (PyData.list as42)).bind fun x44 => S.lift (oAdd x43 x44)))) ds36).bind fun xs37 => S.ret (PyData.list xs37)).bind fun x53 => ((((S.ret v27).bind fun x48 => (((S.ret (PyData.int 0)).bind fun x45 => (S.ret []).bind fun as46 => S.ret (x45 :: as46)).bind fun as47 => S.ret (PyData.list as47)).bind fun x49 => S.lift (oAdd x48 x49)).bind fun x50 => (S.ret []).bind fun as51 => S.ret (x50 :: as51)).bind fun as52 => S.ret (PyData.list as52)).bind fun x54 => S.lift (oAdd x53 x54)).bind fun s56 => S.ret (s56)))) ds17 (v7)).bind fun v57 =>
  (S.ret v57)))
noncomputable abbrev F_distances_of : List Sv → M Sv := liftF (u1 T_distances_of)
noncomputable def G_distances_of : Rho → M Out :=
  (gSeq (gSet 1 (lstV false (argC (lstV false (argC (con (.int 0)) argN)) argN)))
  (gSeq (gFor (seqV (slot 0)) (gTp 2 (gsCons (gNm 2) (gsCons (gNm 3) gsNil)))
  (gSeq (gSet 4 (lcV false [5] (seqV (bin pIx (slot 1) (slot 2))) (gNm 5) yes (bin (pAdd false) (slot 5) (slot 3))))
  (gSet 1 (bin (pAdd false) (lcV false [6, 7] (enuA (slot 1)) (gTp 2 (gsCons (gNm 6) (gsCons (gNm 7) gsNil))) yes (bin (pAdd false) (slot 7) (lstV false (argC (bin pIx (slot 4) (slot 6)) argN)))) (lstV false (argC (bin (pAdd false) (slot 4) (lstV false (argC (con (.int 0)) argN))) argN))))))
  (gRet (slot 1))))
theorem tt_distances_of (a0 : PyData) : Jd [some (.im a0), none, none, none, none, none, none, none] G_distances_of (T_distances_of a0) pR := by
  unfold T_distances_of G_distances_of
  exact (r_seq (s_setI 1 (e_lst (a_cons' (e_lst (a_cons' (e_con (PyData.int 0)) a_nil')) a_nil'))) fun v7 =>
  (r_seq (s_for' (h := fun (s : PyData) => [some (.im a0), some (.im s), none, none, none, none, none, none]) (v7) (w_seq (e_slot 0 rfl)) (.keep (.keep (.drop (.drop (.drop (.drop (.drop (.drop .nil)))))))) (fun s9 d10 => b_tg (u := fun d10 => ((S.lift (un2 d10)).bind fun p12 => (S.ret p12.1).bind fun s13 => (S.ret p12.2).bind fun s15 => S.ret (s13, s15))) (e' := fun (t : ((PyData) × (PyData))) => [some (.im a0), some (.im s9), some (.im t.1), some (.im t.2), none, none, none, none]) d10 (tg_tp2 (e1 := fun (s13 : PyData) => [some (.im a0), some (.im s9), some (.im s13), none, none, none, none, none]) (e2 := fun (s13 : PyData) (s15 : PyData) => [some (.im a0), some (.im s9), some (.im s13), some (.im s15), none, none, none, none]) (u1 := fun d14 => (S.ret d14)) (u2 := fun d16 => (S.ret d16)) d10 (fun d14 => (tg_nm 2 d14)) (fun s13 d16 => (tg_nm 3 d16))) fun t11 => ((r_seq (s_setI 4 (e_lc (u := fun d21 => (S.ret d21)) (e' := fun (s : PyData) => [some (.im a0), some (.im s9), some (.im t11.1), some (.im t11.2), none, some (.im s), none, none]) [5] (w_seq (e_bin op_ix' (e_slot 1 rfl) (e_w (e_slot 2 rfl)))) rfl (fun d21 => (tc_nm 5 d21 rfl)) (fun s22 => (e_bin op_add' (e_slot 5 rfl) (e_w (e_slot 3 rfl)))))) fun v27 =>
  ((n_end (fun (s56 : PyData) => (s56)) (s_setI 1 (e_bin op_add' (e_lc (u := fun d29 => ((S.lift (un2 d29)).bind fun p30 => (S.ret p30.1).bind fun s31 => (S.ret p30.2).bind fun s33 => S.ret (s31, s33))) (e' := fun (s : ((PyData) × (PyData))) => [some (.im a0), some (.im s9), some (.im t11.1), some (.im t11.2), some (.im v27), none, some (.im s.1), some (.im s.2)]) [6, 7] (w_enA (e_slot 1 rfl)) rfl (fun d29 => (tc_tp2 (e1 := fun (s31 : PyData) => [some (.im a0), some (.im s9), some (.im t11.1), some (.im t11.2), some (.im v27), none, some (.im s31), none]) (e2 := fun (s31 : PyData) (s33 : PyData) => [some (.im a0), some (.im s9), some (.im t11.1), some (.im t11.2), some (.im v27), none, some (.im s31), some (.im s33)]) (u1 := fun d32 => (S.ret d32)) (u2 := fun d34 => (S.ret d34)) d29 (fun d32 => (tc_nm 6 d32 rfl)) (fun s31 d34 => (tc_nm 7 d34 rfl)))) (fun s35 => (e_bin op_add' (e_slot 7 rfl) (e_w (e_lst (a_cons' (e_bin op_ix' (e_slot 4 rfl) (e_w (e_slot 6 rfl))) a_nil')))))) (e_w (e_lst (a_cons' (e_bin op_add' (e_slot 4 rfl) (e_w (e_lst (a_cons' (e_con (PyData.int 0)) a_nil')))) a_nil'))))) fun s56 => (.keep (.keep (.drop (.drop (.drop (.drop (.drop (.drop .nil)))))))))))))) fun v57 =>
  (r_ret (e_slot 1 rfl))))
theorem same_distances_of (ss : List Sv) (μ : Mu) (r : Res Sv) (hs : ss.length = 1) (wf : Wf μ) (e : F_distances_of ss μ = some r) : ∃ r', G_distances_of (ini 8 ss) μ = some r' ∧ Agree μ.length r r' :=
  same_T (n := 1) (fun ds h => by
    obtain ⟨a0, rfl⟩ := len1 h
    exact r_e (tt_distances_of a0)) ss μ r hs wf e
noncomputable def T__pair_at (a0 a1 : PyData) : S PyData :=
  ((((S.ret a1).bind fun x1 => S.lift ((seqD x1).map enuD)).bind fun ds30 => S.foldF (fun (s2 : PUnit) d3 => ((S.lift (un2 d3)).bind fun p5 => (S.ret p5.1).bind fun s6 => ((S.lift (un2 p5.2)).bind fun p9 => (S.ret p9.1).bind fun s10 => (S.ret p9.2).bind fun s12 => S.ret (s10, s12)).bind fun s8 => S.ret (s6, s8)).bind fun t4 => ((((S.ret a1).bind fun x31 => S.lift ((seqD x31).map enuD)).bind fun ds60 => S.foldF (fun (s32 : PUnit) d33 => ((S.lift (un2 d33)).bind fun p35 => (S.ret p35.1).bind fun s36 => ((S.lift (un2 p35.2)).bind fun p39 => (S.ret p39.1).bind fun s40 => (S.ret p39.2).bind fun s42 => S.ret (s40, s42)).bind fun s38 => S.ret (s36, s38)).bind fun t34 => ((((S.ret t34.2.2).bind fun x61 => (S.ret PyData.none).bind fun x62 => S.lift (cIs true x61 x62)).bind fun z71 => bAnd z71 ((S.ret t4.2.1).bind fun x69 => ((S.ret t34.2.2).bind fun x67 => (((S.ret a0).bind fun x63 => (S.ret t4.1).bind fun x64 => S.lift (oIx x63 x64)).bind fun x65 => (S.ret t34.1).bind fun x66 => S.lift (oIx x65 x66)).bind fun x68 => S.lift (oAdd x67 x68)).bind fun x70 => S.lift (cGt x69 x70))).bind fun z72 => if z72 = true then ((((S.ret t4.1).bind fun x75 => ((S.ret t34.1).bind fun x73 => (S.ret []).bind fun as74 => S.ret (x73 :: as74)).bind fun as76 => S.ret (x75 :: as76)).bind fun as77 => S.ret (PyData.tuple as77)).bind fun x78 => S.ret (.rt x78)) else (S.ret (.nx PUnit.unit)))) ds60 PUnit.unit).bind fun o79 => flF o79 fun (s80 : PUnit) => S.ret (.nx PUnit.unit))) ds30 PUnit.unit).bind fun o81 => flR o81 fun (s82 : PUnit) =>
  (S.ret PyData.none))
noncomputable abbrev F__pair_at : List Sv → M Sv := liftF (u2 T__pair_at)
noncomputable def G__pair_at : Rho → M Out :=
  (gSeq (gFor (enuA (slot 1)) (gTp 2 (gsCons (gNm 2) (gsCons (gTp 2 (gsCons (gNm 3) (gsCons (gNm 4) gsNil))) gsNil)))
  (gFor (enuA (slot 1)) (gTp 2 (gsCons (gNm 5) (gsCons (gTp 2 (gsCons (gNm 4) (gsCons (gNm 6) gsNil))) gsNil)))
  (gIf (andT (tst (bin (pIs true) (slot 6) (con .none))) (tst (bin pGt (slot 3) (bin (pAdd false) (slot 6) (bin pIx (bin pIx (slot 0) (slot 2)) (slot 5))))))
  (gRet (tupV (argC (slot 2) (argC (slot 5) argN))))
  gSkip)))
  (gRet (con .none)))
theorem tt__pair_at (a0 a1 : PyData) : Jd [some (.im a0), some (.im a1), none, none, none, none, none] G__pair_at (T__pair_at a0 a1) pR := by
  unfold T__pair_at G__pair_at
  exact (r_flow (s_forF (h := fun (s : PUnit) => [some (.im a0), some (.im a1), none, none, none, none, none]) PUnit.unit (w_enA (e_slot 1 rfl)) (.keep (.keep (.drop (.drop (.drop (.drop (.drop .nil))))))) (fun s2 d3 => b_tgF (u := fun d3 => ((S.lift (un2 d3)).bind fun p5 => (S.ret p5.1).bind fun s6 => ((S.lift (un2 p5.2)).bind fun p9 => (S.ret p9.1).bind fun s10 => (S.ret p9.2).bind fun s12 => S.ret (s10, s12)).bind fun s8 => S.ret (s6, s8))) (e' := fun (t : ((PyData) × (((PyData) × (PyData))))) => [some (.im a0), some (.im a1), some (.im t.1), some (.im t.2.1), some (.im t.2.2), none, none]) d3 (tg_tp2 (e1 := fun (s6 : PyData) => [some (.im a0), some (.im a1), some (.im s6), none, none, none, none]) (e2 := fun (s6 : PyData) (s8 : ((PyData) × (PyData))) => [some (.im a0), some (.im a1), some (.im s6), some (.im s8.1), some (.im s8.2), none, none]) (u1 := fun d7 => (S.ret d7)) (u2 := fun d14 => ((S.lift (un2 d14)).bind fun p15 => (S.ret p15.1).bind fun s16 => (S.ret p15.2).bind fun s18 => S.ret (s16, s18))) d3 (fun d7 => (tg_nm 2 d7)) (fun s6 d14 => (tg_tp2 (e1 := fun (s16 : PyData) => [some (.im a0), some (.im a1), some (.im s6), some (.im s16), none, none, none]) (e2 := fun (s16 : PyData) (s18 : PyData) => [some (.im a0), some (.im a1), some (.im s6), some (.im s16), some (.im s18), none, none]) (u1 := fun d17 => (S.ret d17)) (u2 := fun d19 => (S.ret d19)) d14 (fun d17 => (tg_nm 3 d17)) (fun s16 d19 => (tg_nm 4 d19))))) fun t4 => (f_flowL (fun (s80 : PUnit) => PUnit.unit) (s_forF (h := fun (s : PUnit) => [some (.im a0), some (.im a1), some (.im t4.1), some (.im t4.2.1), none, none, none]) PUnit.unit (w_enA (e_slot 1 rfl)) (.keep (.keep (.keep (.keep (.drop (.drop (.drop .nil))))))) (fun s32 d33 => b_tgF (u := fun d33 => ((S.lift (un2 d33)).bind fun p35 => (S.ret p35.1).bind fun s36 => ((S.lift (un2 p35.2)).bind fun p39 => (S.ret p39.1).bind fun s40 => (S.ret p39.2).bind fun s42 => S.ret (s40, s42)).bind fun s38 => S.ret (s36, s38))) (e' := fun (t : ((PyData) × (((PyData) × (PyData))))) => [some (.im a0), some (.im a1), some (.im t4.1), some (.im t4.2.1), some (.im t.2.1), some (.im t.1), some (.im t.2.2)]) d33 (tg_tp2 (e1 := fun (s36 : PyData) => [some (.im a0), some (.im a1), some (.im t4.1), some (.im t4.2.1), none, some (.im s36), none]) (e2 := fun (s36 : PyData) (s38 : ((PyData) × (PyData))) => [some (.im a0), some (.im a1), some (.im t4.1), some (.im t4.2.1), some (.im s38.1), some (.im s36), some (.im s38.2)]) (u1 := fun d37 => (S.ret d37)) (u2 := fun d44 => ((S.lift (un2 d44)).bind fun p45 => (S.ret p45.1).bind fun s46 => (S.ret p45.2).bind fun s48 => S.ret (s46, s48))) d33 (fun d37 => (tg_nm 5 d37)) (fun s36 d44 => (tg_tp2 (e1 := fun (s46 : PyData) => [some (.im a0), some (.im a1), some (.im t4.1), some (.im t4.2.1), some (.im s46), some (.im s36), none]) (e2 := fun (s46 : PyData) (s48 : PyData) => [some (.im a0), some (.im a1), some (.im t4.1), some (.im t4.2.1), some (.im s46), some (.im s36), some (.im s48)]) (u1 := fun d47 => (S.ret d47)) (u2 := fun d49 => (S.ret d49)) d44 (fun d47 => (tg_nm 4 d47)) (fun s46 d49 => (tg_nm 6 d49))))) fun t34 => (q_if (u_and (u_bin op_is' (e_slot 6 rfl) (e_w (e_con PyData.none))) (u_bin op_cmp' (e_slot 3 rfl) (e_w (e_bin op_add' (e_slot 6 rfl) (e_w (e_bin op_ix' (e_bin op_ix' (e_slot 0 rfl) (e_w (e_slot 2 rfl))) (e_w (e_slot 5 rfl)))))))) (f_ret (e_tup (a_cons' (e_slot 2 rfl) (a_cons' (e_slot 5 rfl) a_nil')))) (f_skip PUnit.unit (.keep (.keep (.keep (.keep (.drop (.drop (.drop .nil))))))))))) fun s80 => (.keep (.keep (.drop (.drop (.drop (.drop (.drop .nil)))))))))) fun s82 =>
  (r_ret (e_con PyData.none)))
theorem same__pair_at (ss : List Sv) (μ : Mu) (r : Res Sv) (hs : ss.length = 2) (wf : Wf μ) (e : F__pair_at ss μ = some r) : ∃ r', G__pair_at (ini 7 ss) μ = some r' ∧ Agree μ.length r r' :=
  same_T (n := 2) (fun ds h => by
    obtain ⟨a0, a1, rfl⟩ := len2 h
    exact r_e (tt__pair_at a0 a1)) ss μ r hs wf e
end Pf

set_option maxHeartbeats 1000000
namespace Pf
open PySem PySem.Spec PyProof.Rows L2
noncomputable def T__check_some_table (a0 a1 : PyData) : S PyData :=
  ((((S.ret a0).bind fun x3 => ((S.ret a1).bind fun x1 => (S.ret []).bind fun as2 => S.ret (x1 :: as2)).bind fun as4 => S.ret (x3 :: as4)).bind (u2 T__pair_at)).bind fun v5 =>
  (((S.ret v5).bind fun x6 => (S.ret PyData.none).bind fun x7 => S.lift (cIs true x6 x7)).bind fun z8 => if z8 = true then ((S.ret v5).bind fun x9 => S.thr ⟨"NoTable", some ("pair", x9)⟩) else (S.ret PyData.none)))
noncomputable abbrev F__check_some_table : List Sv → M Sv := liftF (u2 T__check_some_table)
noncomputable def G__check_some_table : Rho → M Out :=
  (gSeq (gSet 2 (callF F__pair_at 2 (argC (slot 0) (argC (slot 1) argN))))
  (gIf (tst (bin (pIs true) (slot 2) (con .none)))
  (Err_NoTable.gRaise (slot 2))
  gSkip))
theorem tt__check_some_table (a0 a1 : PyData) : Jd [some (.im a0), some (.im a1), none] G__check_some_table (T__check_some_table a0 a1) pE := by
  unfold T__check_some_table G__check_some_table
  exact (r_seq (s_setI 2 (e_call (a_cons' (e_slot 0 rfl) (a_cons' (e_slot 1 rfl) a_nil')))) fun v5 =>
  (q_if (u_bin op_is' (e_slot 2 rfl) (e_w (e_con PyData.none))) (r_e (r_raise (e_slot 2 rfl) rfl)) r_end))
theorem same__check_some_table (ss : List Sv) (μ : Mu) (r : Res Sv) (hs : ss.length = 2) (wf : Wf μ) (e : F__check_some_table ss μ = some r) : ∃ r', G__check_some_table (ini 3 ss) μ = some r' ∧ Agree μ.length r r' :=
  same_T (n := 2) (fun ds h => by
    obtain ⟨a0, a1, rfl⟩ := len2 h
    exact tt__check_some_table a0 a1) ss μ r hs wf e
noncomputable def T__earliest_number (a0 a1 : PyData) : S PyData :=
  ((((S.ret a1).bind fun x1 => (S.ret a0).bind fun x2 => S.lift (ziD x1 x2)).bind fun ds25 => (S.lift (szD ds25)).bind fun _ => (S.mapM (fun d3 => S.noEx (((S.lift (un2 d3)).bind fun p4 => ((S.lift (un2 p4.1)).bind fun p6 => (S.ret p6.1).bind fun s7 => (S.ret p6.2).bind fun s9 => S.ret (s7, s9)).bind fun s5 => (S.ret p4.2).bind fun s17 => S.ret (s5, s17)).bind fun s19 => ((S.ret s19.1.1).bind fun x32 => (S.ret s19.2).bind fun x33 => S.lift (oSub x32 x33)))) ds25).bind fun xs26 => S.ret (PyData.list xs26)).bind fun x34 => S.lift (oBest max x34))
noncomputable abbrev F__earliest_number : List Sv → M Sv := liftF (u2 T__earliest_number)
noncomputable def G__earliest_number : Rho → M Out :=
  (gRet (callV bMaxA (argC (lcV false [2, 3, 4] (zipW (slot 1) (slot 0)) (gTp 2 (gsCons (gTp 2 (gsCons (gNm 3) (gsCons (gNm 4) gsNil))) (gsCons (gNm 2) gsNil))) yes (bin pSub (slot 3) (slot 2))) argN)))
theorem tt__earliest_number (a0 a1 : PyData) : Jd [some (.im a0), some (.im a1), none, none, none] G__earliest_number (T__earliest_number a0 a1) pR := by
  unfold T__earliest_number G__earliest_number
  exact (r_ret (e_bl1 bl_best (e_w (e_lc (u := fun d3 => ((S.lift (un2 d3)).bind fun p4 => ((S.lift (un2 p4.1)).bind fun p6 => (S.ret p6.1).bind fun s7 => (S.ret p6.2).bind fun s9 => S.ret (s7, s9)).bind fun s5 => (S.ret p4.2).bind fun s17 => S.ret (s5, s17))) (e' := fun (s : ((((PyData) × (PyData))) × (PyData))) => [some (.im a0), some (.im a1), some (.im s.2), some (.im s.1.1), some (.im s.1.2)]) [2, 3, 4] (w_zip (e_slot 1 rfl) (e_slot 0 rfl)) rfl (fun d3 => (tc_tp2 (e1 := fun (s5 : ((PyData) × (PyData))) => [some (.im a0), some (.im a1), none, some (.im s5.1), some (.im s5.2)]) (e2 := fun (s5 : ((PyData) × (PyData))) (s17 : PyData) => [some (.im a0), some (.im a1), some (.im s17), some (.im s5.1), some (.im s5.2)]) (u1 := fun d11 => ((S.lift (un2 d11)).bind fun p12 => (S.ret p12.1).bind fun s13 => (S.ret p12.2).bind fun s15 => S.ret (s13, s15))) (u2 := fun d18 => (S.ret d18)) d3 (fun d11 => (tc_tp2 (e1 := fun (s13 : PyData) => [some (.im a0), some (.im a1), none, some (.im s13), none]) (e2 := fun (s13 : PyData) (s15 : PyData) => [some (.im a0), some (.im a1), none, some (.im s13), some (.im s15)]) (u1 := fun d14 => (S.ret d14)) (u2 := fun d16 => (S.ret d16)) d11 (fun d14 => (tc_nm 3 d14 rfl)) (fun s13 d16 => (tc_nm 4 d16 rfl)))) (fun s5 d18 => (tc_nm 2 d18 rfl)))) (fun s19 => (e_bin op_sub' (e_slot 3 rfl) (e_w (e_slot 2 rfl))))))))
theorem same__earliest_number (ss : List Sv) (μ : Mu) (r : Res Sv) (hs : ss.length = 2) (wf : Wf μ) (e : F__earliest_number ss μ = some r) : ∃ r', G__earliest_number (ini 5 ss) μ = some r' ∧ Agree μ.length r r' :=
  same_T (n := 2) (fun ds h => by
    obtain ⟨a0, a1, rfl⟩ := len2 h
    exact r_e (tt__earliest_number a0 a1)) ss μ r hs wf e
noncomputable def T_earliest_at (a0 a1 : PyData) : S PyData :=
  ((((S.ret a0).bind fun x3 => ((S.ret a1).bind fun x1 => (S.ret []).bind fun as2 => S.ret (x1 :: as2)).bind fun as4 => S.ret (x3 :: as4)).bind (u2 T__check_some_table)).bind fun v5 =>
  ((((S.ret a0).bind fun x6 => S.lift (seqD x6)).bind fun ds9 => (S.lift (szD ds9)).bind fun _ => (S.mapM (fun d7 => S.noEx ((S.ret d7).bind fun s8 => (((S.ret s8).bind fun x13 => ((S.ret a1).bind fun x11 => (S.ret []).bind fun as12 => S.ret (x11 :: as12)).bind fun as14 => S.ret (x13 :: as14)).bind (u2 T__earliest_number)))) ds9).bind fun xs10 => S.ret (PyData.list xs10)).bind fun x15 => S.lift (oTuple x15)))
noncomputable abbrev F_earliest_at : List Sv → M Sv := liftF (u2 T_earliest_at)
noncomputable def G_earliest_at : Rho → M Out :=
  (gSeq (gExpr (callF F__check_some_table 2 (argC (slot 0) (argC (slot 1) argN))))
  (gRet (callV bTuple (argC (lcV false [2] (seqV (slot 0)) (gNm 2) yes (callF F__earliest_number 2 (argC (slot 2) (argC (slot 1) argN)))) argN))))
theorem tt_earliest_at (a0 a1 : PyData) : Jd [some (.im a0), some (.im a1), none] G_earliest_at (T_earliest_at a0 a1) pR := by
  unfold T_earliest_at G_earliest_at
  exact (r_seq (s_expr' (e_call (a_cons' (e_slot 0 rfl) (a_cons' (e_slot 1 rfl) a_nil')))) fun v5 =>
  (r_ret (e_bl1 bl_tuple (e_w (e_lc (u := fun d7 => (S.ret d7)) (e' := fun (s : PyData) => [some (.im a0), some (.im a1), some (.im s)]) [2] (w_seq (e_slot 0 rfl)) rfl (fun d7 => (tc_nm 2 d7 rfl)) (fun s8 => (e_call (a_cons' (e_slot 2 rfl) (a_cons' (e_slot 1 rfl) a_nil')))))))))
theorem same_earliest_at (ss : List Sv) (μ : Mu) (r : Res Sv) (hs : ss.length = 2) (wf : Wf μ) (e : F_earliest_at ss μ = some r) : ∃ r', G_earliest_at (ini 3 ss) μ = some r' ∧ Agree μ.length r r' :=
  same_T (n := 2) (fun ds h => by
    obtain ⟨a0, a1, rfl⟩ := len2 h
    exact r_e (tt_earliest_at a0 a1)) ss μ r hs wf e
end Pf

set_option maxHeartbeats 1000000
namespace Pf
open PySem PySem.Spec PyProof.Rows L2
noncomputable def T__part_at (a0 a1 a2 a3 : PyData) : S PyData :=
  ((((S.ret a1).bind fun x1 => (S.ret a3).bind fun x2 => S.lift (oIx x1 x2)).bind fun x3 => (S.ret (PyData.int 1)).bind fun x4 => S.lift (oIx x3 x4)).bind fun v5 =>
  (((S.ret v5).bind fun x6 => (S.ret PyData.none).bind fun x7 => S.lift (cIs false x6 x7)).bind fun z8 => if z8 = true then (((S.ret a1).bind fun x9 => S.lift (oLen x9)).bind fun x10 => S.lift (oTupRg x10)) else
  ((((S.ret a2).bind fun x13 => ((S.ret a0).bind fun x11 => (S.ret a3).bind fun x12 => S.lift (oIx x11 x12)).bind fun x14 => S.lift (enZ x13 x14)).bind fun ds37 => (S.lift (szD ds37)).bind fun _ => (S.mapF (fun d15 => S.noEx (((S.lift (un2 d15)).bind fun p16 => (S.ret p16.1).bind fun s17 => ((S.lift (un2 p16.2)).bind fun p20 => (S.ret p20.1).bind fun s21 => (S.ret p20.2).bind fun s23 => S.ret (s21, s23)).bind fun s19 => S.ret (s17, s19)).bind fun s31 => (((S.ret s31.2.1).bind fun x44 => (S.ret s31.2.2).bind fun x45 => S.lift (oAdd x44 x45)).bind fun x46 => (S.ret v5).bind fun x47 => S.lift (cLe x46 x47)).bind fun z48 => if z48 = true then (S.ret s31.1).bind fun x49 => S.ret (some x49) else S.ret none)) ds37).bind fun xs38 => S.ret (PyData.list xs38)).bind fun x50 => S.lift (oTuple x50))))
noncomputable abbrev F__part_at : List Sv → M Sv := liftF (u4 T__part_at)
noncomputable def G__part_at : Rho → M Out :=
  (gSeq (gSet 4 (bin pIx (bin pIx (slot 1) (slot 3)) (con (.int 1))))
  (gSeq (gIf (tst (bin (pIs false) (slot 4) (con .none)))
  (gRet (tupRgV (callV bLen (argC (slot 1) argN))))
  gSkip)
  (gRet (callV bTuple (argC (lcV false [5, 6, 7] (enuZ (slot 2) (bin pIx (slot 0) (slot 3))) (gTp 2 (gsCons (gNm 5) (gsCons (gTp 2 (gsCons (gNm 6) (gsCons (gNm 7) gsNil))) gsNil))) (tst (bin pLe (bin (pAdd false) (slot 6) (slot 7)) (slot 4))) (slot 5)) argN)))))
theorem tt__part_at (a0 a1 a2 a3 : PyData) : Jd [some (.im a0), some (.im a1), some (.im a2), some (.im a3), none, none, none, none] G__part_at (T__part_at a0 a1 a2 a3) pR := by
  unfold T__part_at G__part_at
  exact (r_seq (s_setI 4 (e_bin op_ix' (e_bin op_ix' (e_slot 1 rfl) (e_w (e_slot 3 rfl))) (e_w (e_con (PyData.int 1))))) fun v5 =>
  (r_ifR (u_bin op_is' (e_slot 4 rfl) (e_w (e_con PyData.none))) (r_ret (e_tupRg (e_bl1 bl_len (e_w (e_slot 1 rfl)))))
  (r_ret (e_bl1 bl_tuple (e_w (e_lcF (u := fun d15 => ((S.lift (un2 d15)).bind fun p16 => (S.ret p16.1).bind fun s17 => ((S.lift (un2 p16.2)).bind fun p20 => (S.ret p20.1).bind fun s21 => (S.ret p20.2).bind fun s23 => S.ret (s21, s23)).bind fun s19 => S.ret (s17, s19))) (e' := fun (s : ((PyData) × (((PyData) × (PyData))))) => [some (.im a0), some (.im a1), some (.im a2), some (.im a3), some (.im v5), some (.im s.1), some (.im s.2.1), some (.im s.2.2)]) [5, 6, 7] (w_enZ (e_slot 2 rfl) (e_bin op_ix' (e_slot 0 rfl) (e_w (e_slot 3 rfl)))) rfl (fun d15 => (tc_tp2 (e1 := fun (s17 : PyData) => [some (.im a0), some (.im a1), some (.im a2), some (.im a3), some (.im v5), some (.im s17), none, none]) (e2 := fun (s17 : PyData) (s19 : ((PyData) × (PyData))) => [some (.im a0), some (.im a1), some (.im a2), some (.im a3), some (.im v5), some (.im s17), some (.im s19.1), some (.im s19.2)]) (u1 := fun d18 => (S.ret d18)) (u2 := fun d25 => ((S.lift (un2 d25)).bind fun p26 => (S.ret p26.1).bind fun s27 => (S.ret p26.2).bind fun s29 => S.ret (s27, s29))) d15 (fun d18 => (tc_nm 5 d18 rfl)) (fun s17 d25 => (tc_tp2 (e1 := fun (s27 : PyData) => [some (.im a0), some (.im a1), some (.im a2), some (.im a3), some (.im v5), some (.im s17), some (.im s27), none]) (e2 := fun (s27 : PyData) (s29 : PyData) => [some (.im a0), some (.im a1), some (.im a2), some (.im a3), some (.im v5), some (.im s17), some (.im s27), some (.im s29)]) (u1 := fun d28 => (S.ret d28)) (u2 := fun d30 => (S.ret d30)) d25 (fun d28 => (tc_nm 6 d28 rfl)) (fun s27 d30 => (tc_nm 7 d30 rfl)))))) (fun s31 => (u_bin op_cmp' (e_bin op_add' (e_slot 6 rfl) (e_w (e_slot 7 rfl))) (e_w (e_slot 4 rfl)))) (fun s31 => (e_slot 5 rfl))))))))
theorem same__part_at (ss : List Sv) (μ : Mu) (r : Res Sv) (hs : ss.length = 4) (wf : Wf μ) (e : F__part_at ss μ = some r) : ∃ r', G__part_at (ini 8 ss) μ = some r' ∧ Agree μ.length r r' :=
  same_T (n := 4) (fun ds h => by
    obtain ⟨a0, a1, a2, a3, rfl⟩ := len4 h
    exact r_e (tt__part_at a0 a1 a2 a3)) ss μ r hs wf e
end Pf

set_option maxHeartbeats 1000000
namespace Pf
open PySem PySem.Spec PyProof.Rows L2
/-! ### distances by relaxing -/
section
variable {rows : List (Int × Int)} (ok : TreeOk rows)
include ok
/-- a row joins marks whose distances differ by its length -/
theorem dist_edge : ∀ (n a b : Nat), a + b < n → a ≤ rows.length → b ≤ rows.length → 0 < b → dist rows a b = dist rows a (par rows b) + lnR rows b ∨ dist rows a (par rows b) = dist rows a b + lnR rows b := by
  intro n
  induction n with
  | zero => intro a b h; omega
  | succ n ih =>
    intro a b h ha hb h0
    obtain ⟨r, _, _, _, hp, _⟩ := row_of ok (m := b) h0 hb
    rcases Nat.lt_trichotomy a b with l | l | l
    · exact .inl (dist_lt ok l hb)
    · subst l
      right
      rw [dist_gt ok hp ha, dist_eq ok, dist_eq ok]
      omega
    · obtain ⟨r, _, _, _, hq, _⟩ := row_of ok (m := a) (by omega) ha
      rw [dist_gt ok l ha, dist_gt ok (show par rows b < a by omega) ha]
      rcases ih (par rows a) b (by omega) (by omega) hb h0 with e | e
      · left; omega
      · right; omega
theorem dist_edge_le {a b : Nat} (ha : a ≤ rows.length) (hb : b ≤ rows.length) (h0 : 0 < b) : dist rows a b ≤ dist rows a (par rows b) + lnR rows b ∧ dist rows a (par rows b) ≤ dist rows a b + lnR rows b := by
  obtain ⟨r, _, _, _, hp, h1, _⟩ := row_of ok (m := b) h0 hb
  rcases dist_edge ok _ a b (Nat.lt_succ_self _) ha hb h0 with e | e
  · omega
  · omega
/-- what a sweep over all rows does -/
structure Swept (a : Nat) (d d' : Nat → Int) : Prop where
  lo : ∀ v, v ≤ rows.length → dist rows a v ≤ d' v
  le : ∀ v, v ≤ rows.length → d' v ≤ d v
  down : ∀ v, 0 < v → v ≤ rows.length → d' v ≤ d (par rows v) + lnR rows v
  up : ∀ v, 0 < v → v ≤ rows.length → d' (par rows v) ≤ d v + lnR rows v
end
/-! ### rows of numbers as functions -/
def arr (n : Nat) (d : Nat → Int) : List PyData := (List.range n).map fun v => .int (d v)
theorem arr_len (n : Nat) (d : Nat → Int) : (arr n d).length = n := by
  unfold arr
  rw [List.length_map, List.length_range]
theorem oIx_arr {n i : Nat} {d : Nat → Int} (h : i < n) : oIx (.list (arr n d)) (.int (i : Int)) = some (.int (d i)) := atI_range (fun v => PyData.int (d v)) h
theorem oMin2_i (i j : Int) : oMin2 (.int i) (.int j) = some (.int (min i j)) := by
  show some (PyData.int (if j < i then j else i)) = _
  have : (if j < i then j else i) = min i j := by split <;> omega
  rw [this]
theorem oMax2_i (i j : Int) : oMax2 (.int i) (.int j) = some (.int (max i j)) := by
  show some (PyData.int (if j > i then j else i)) = _
  have : (if j > i then j else i) = max i j := by split <;> omega
  rw [this]
end Pf

set_option maxHeartbeats 1000000
namespace Pf
open PySem PySem.Spec PyProof.Rows L2
theorem rngI {i : Int} (h0 : 0 ≤ i) (h1 : i ≤ 1000000000) : rngD (.int i) = some ((List.range i.toNat).map mkD) := by
  have := rngD_ok (n := i.toNat) (by omega)
  rw [fromTo_map] at this
  rw [show ((i.toNat : Nat) : Int) = i by omega] at this
  exact this
theorem range_at {n i : Nat} {d : PyData} (h : ((List.range n).map mkD)[i]? = some d) : i < n ∧ d = mkD i := by
  rw [List.getElem?_map] at h
  by_cases hi : i < n
  · rw [List.getElem?_range hi] at h
    exact ⟨hi, (Option.some.inj h).symm⟩
  · rw [List.getElem?_eq_none (by simpa using hi)] at h
    cases h
theorem oLen_tree (rows : List (Int × Int)) : oLen (treeD rows) = some (.int (rows.length : Nat)) := by
  show some (PyData.int ((rows.map rowD).length : Nat)) = _
  rw [List.length_map]
theorem foldl_best {f : Int → Int → Int} {R : Int → Int → Prop} (rf : ∀ x, R x x) (tr : ∀ x y z, R x y → R y z → R x z) (hf : ∀ x y, (f x y = x ∨ f x y = y) ∧ R (f x y) x ∧ R (f x y) y) : ∀ (r : List Int) (n : Int), (r.foldl f n ∈ n :: r) ∧ ∀ x ∈ n :: r, R (r.foldl f n) x
  | [], n => ⟨List.mem_cons_self, fun x hx => by
    rw [List.mem_singleton.mp hx]
    exact rf _⟩
  | y :: r, n => by
    obtain ⟨h1, h2⟩ := foldl_best rf tr hf r (f n y)
    obtain ⟨c, a, b⟩ := hf n y
    refine ⟨?_, fun x hx => ?_⟩
    · rw [List.foldl_cons]
      rcases List.mem_cons.mp h1 with h | h
      · rw [h]
        rcases c with c | c
        · rw [c]
          exact List.mem_cons_self
        · rw [c]
          exact List.mem_cons_of_mem _ List.mem_cons_self
      · exact List.mem_cons_of_mem _ (List.mem_cons_of_mem _ h)
    · rw [List.foldl_cons]
      have h0 := h2 (f n y) List.mem_cons_self
      rcases List.mem_cons.mp hx with rfl | hx
      · exact tr _ _ _ h0 a
      · rcases List.mem_cons.mp hx with rfl | hx
        · exact tr _ _ _ h0 b
        · exact h2 x (List.mem_cons_of_mem _ hx)
def minL : List Int → Int
  | [] => 0
  | n :: r => r.foldl min n
def maxL : List Int → Int
  | [] => 0
  | n :: r => r.foldl max n
theorem minL_spec {xs : List Int} (h : xs ≠ []) : minL xs ∈ xs ∧ ∀ x ∈ xs, minL xs ≤ x := by
  cases xs with
  | nil => exact absurd rfl h
  | cons n r => exact foldl_best (R := fun x y => x ≤ y) (fun x => Int.le_refl x) (fun x y z => Int.le_trans) (fun x y => ⟨by omega, by omega, by omega⟩) r n
theorem maxL_spec {xs : List Int} (h : xs ≠ []) : maxL xs ∈ xs ∧ ∀ x ∈ xs, x ≤ maxL xs := by
  cases xs with
  | nil => exact absurd rfl h
  | cons n r => exact foldl_best (R := fun x y => y ≤ x) (fun x => Int.le_refl x) (fun x y z h1 h2 => Int.le_trans h2 h1) (fun x y => ⟨by omega, by omega, by omega⟩) r n
theorem maxL_is {xs : List Int} {m : Int} (h : m ∈ xs) (l : ∀ x ∈ xs, x ≤ m) : maxL xs = m := by
  have hne : xs ≠ [] := fun z => by rw [z] at h; cases h
  obtain ⟨h1, h2⟩ := maxL_spec hne
  exact Int.le_antisymm (l _ h1) (h2 m h)
theorem oBest_min {xs : List Int} (h : xs ≠ []) : oBest min (.list (xs.map .int)) = some (.int (minL xs)) := by
  cases xs with
  | nil => exact absurd rfl h
  | cons n r =>
    unfold oBest
    dsimp only
    rw [ints_map]
    rfl
theorem oBest_max {xs : List Int} (h : xs ≠ []) : oBest max (.list (xs.map .int)) = some (.int (maxL xs)) := by
  cases xs with
  | nil => exact absurd rfl h
  | cons n r =>
    unfold oBest
    dsimp only
    rw [ints_map]
    rfl
theorem seqD_l (ds : List PyData) : seqD (.list ds) = some ds := rfl
theorem oLen_l (ds : List PyData) : oLen (.list ds) = some (.int (ds.length : Nat)) := rfl
theorem oLen_t (ds : List PyData) : oLen (.tuple ds) = some (.int (ds.length : Nat)) := rfl
def tAt (ts : List Int) (i : Nat) : Int := (ts[i]?).getD 0
theorem oIx_tab {xs : List Int} {i : Nat} (h : i < xs.length) : oIx (tabD xs) (.int (i : Int)) = some (.int (tAt xs i)) := oIx_t (f := PyData.int) (by unfold tAt; rw [List.getElem?_eq_getElem h]; rfl)
end Pf

set_option maxHeartbeats 1000000
namespace Pf
open PySem PySem.Spec PyProof.Rows L2
/-! ### the table of distances -/
def matD (n : Nat) (d : Nat → Nat → Int) : PyData := .list ((List.range n).map fun i => .list (arr n (d i)))
theorem oIx_mat {n i : Nat} {d : Nat → Nat → Int} (h : i < n) : oIx (matD n d) (mkD i) = some (.list (arr n (d i))) := atI_range (fun i => PyData.list (arr n (d i))) h
theorem mat_next' {rows : List (Int × Int)} (ok : TreeOk rows) {i : Nat} (hi : i < rows.length) : matD (i + 1 + 1) (dist rows) =
    .list ((List.range (i + 1)).map (fun m => PyData.list (arr (i + 1) (dist rows m) ++ [.int (dist rows (par rows (i + 1)) m + lnR rows (i + 1))])) ++ [.list (arr (i + 1) (fun m => dist rows (par rows (i + 1)) m + lnR rows (i + 1)) ++ [.int 0])]) := by
  obtain ⟨r, _, _, _, hlt, _⟩ := row_of ok (m := i + 1) (by omega) (by omega)
  unfold matD
  congr 1
  rw [List.range_succ (n := i + 1), List.map_append]
  congr 1
  · refine List.map_congr_left fun m hm => ?_
    have hm' : m < i + 1 := List.mem_range.mp hm
    congr 1
    unfold arr
    rw [List.range_succ, List.map_append]
    congr 1
    show [PyData.int (dist rows m (i + 1))] = _
    rw [dist_lt ok hm' (by omega), dist_comm ok _ m (par rows (i + 1)) (Nat.lt_succ_self _) (by omega) (by omega)]
  · show [PyData.list _] = _
    congr 2
    unfold arr
    rw [List.range_succ, List.map_append]
    congr 1
    · refine List.map_congr_left fun m hm => ?_
      have hm' : m < i + 1 := List.mem_range.mp hm
      rw [dist_gt ok hm' (by omega), Int.add_comm]
    · show [PyData.int (dist rows (i + 1) (i + 1))] = _
      rw [dist_eq ok]
theorem enu_rng (n : Nat) (f : Nat → PyData) : enuD ((List.range n).map f) = (List.range n).map fun k => .tuple [mkD k, f k] := by
  refine List.ext_getElem? fun i => ?_
  by_cases hi : i < n
  · unfold enuD zipD
    rw [List.getElem?_zipWith, fromTo_map, List.length_map, List.length_range, List.getElem?_map, List.getElem?_map, List.getElem?_map, List.getElem?_range hi]
    rfl
  · rw [List.getElem?_eq_none (by rw [enu_len, List.length_map, List.length_range]; omega), List.getElem?_eq_none (by simpa using hi)]
theorem T_dists {rows : List (Int × Int)} (g : TreeG rows) : T_distances_of (treeD rows) = S.ret (matD (rows.length + 1) (dist rows)) := by
  have ok := g.ok
  have hl := g.len
  have es : seqD (treeD rows) = some (rows.map rowD) := rfl
  unfold T_distances_of
  simp only [S.ret_bind, es, S.lift_some, S.bind_ret]
  refine S.foldM_eq (fun i (s : PyData) => s = matD (i + 1) (dist rows)) ?_ (fun i s x hs hx => ?_) fun s hs => ?_
  · show _ = PyData.list _
    simp [arr, dist_eq ok]
  · by_cases hi : i < rows.length
    · subst hs
      obtain ⟨r, er, hp, hln, hlt, _⟩ := row_of ok (m := i + 1) (by omega) (by omega)
      rw [Nat.add_sub_cancel] at er
      rw [List.getElem?_map, er] at hx
      cases hx
      have e4 : oIx (matD (i + 1) (dist rows)) (.int ((par rows (i + 1) : Nat) : Int)) = some (.list (arr (i + 1) (dist rows (par rows (i + 1))))) := oIx_mat (by omega)
      have e5 : seqD (PyData.list (arr (i + 1) (dist rows (par rows (i + 1))))) = some ((List.range (i + 1)).map fun v => PyData.int (dist rows (par rows (i + 1)) v)) := rfl
      simp only [S.lift_some, S.ret_bind, rowD, un2, hp, hln, e4, e5]
      rw [szD_ok (by rw [List.length_map, List.length_range]; omega), S.lift_some, S.ret_bind, S.mapM_map, S.mapM_ret (g := fun m => PyData.int (dist rows (par rows (i + 1)) m + lnR rows (i + 1)))]
      · simp only [S.ret_bind]
        have e6 : (seqD (matD (i + 1) (dist rows))).map enuD = some ((List.range (i + 1)).map fun k => .tuple [mkD k, .list (arr (i + 1) (dist rows k))]) := by
          show some (enuD ((List.range (i + 1)).map fun i_1 => .list (arr (i + 1) (dist rows i_1)))) = _
          rw [enu_rng]
        rw [e6, S.lift_some, S.ret_bind, szD_ok (by rw [List.length_map, List.length_range]; omega), S.lift_some, S.ret_bind]
        rw [S.mapM_map, S.mapM_ret (g := fun m => PyData.list (arr (i + 1) (dist rows m) ++ [.int (dist rows (par rows (i + 1)) m + lnR rows (i + 1))]))]
        · refine ⟨_, ?_, rfl⟩
          have ec : oAdd (.list ((List.range (i + 1)).map fun m => PyData.int (dist rows (par rows (i + 1)) m + lnR rows (i + 1)))) (.list [.int 0]) = some (.list (arr (i + 1) (fun m => dist rows (par rows (i + 1)) m + lnR rows (i + 1)) ++ [.int 0])) := oAdd_l (by rw [List.length_map, List.length_range, List.length_singleton]; omega)
          simp only [S.ret_bind, ec, S.lift_some]
          rw [oAdd_l (by rw [List.length_map, List.length_range, List.length_singleton]; omega), S.lift_some, mat_next' ok hi]
        · intro m hm
          have hm := List.mem_range.mp hm
          have e3 : oIx (.list ((List.range (i + 1)).map fun m => PyData.int (dist rows (par rows (i + 1)) m + lnR rows (i + 1)))) (mkD m) = some (.int (dist rows (par rows (i + 1)) m + lnR rows (i + 1))) := atI_range (fun m => PyData.int (dist rows (par rows (i + 1)) m + lnR rows (i + 1))) hm
          simp only [un2_t, S.lift_some, S.ret_bind, e3]
          rw [oAdd_l (by rw [arr_len, List.length_singleton]; omega), S.lift_some, S.noEx_ret]
      · intro m hm
        simp only [S.lift_some, S.ret_bind, oAdd_i, S.noEx_ret]
    · rw [List.getElem?_eq_none (by simpa using hi)] at hx
      cases hx
  · rw [hs, List.length_map]
def fallsL (d : Nat → Nat → Int) (ps : List (Int × Int)) (n : Nat) : List Int := (List.range n).map fun m => minL (ps.map fun p => p.2 + d p.1.toNat m)
/-! ### pairs -/
theorem enu_wins (ws : List (Int × Option Int)) : (seqD (winsD ws)).map enuD = some ((List.range ws.length).map fun k => .tuple [mkD k, winD (wAt ws k)]) := by
  show some (enuD (ws.map winD)) = _
  congr 1
  apply List.ext_getElem?
  intro i
  by_cases h : i < ws.length
  · have l1 : i < (enuD (ws.map winD)).length := by rw [enu_len, List.length_map]; exact h
    rw [List.getElem?_eq_getElem l1]
    obtain ⟨x, hx, hd⟩ := enu_at (List.getElem?_eq_getElem l1)
    rw [hd, List.getElem?_map, List.getElem?_range h]
    rw [List.getElem?_map, wAt_get h] at hx
    cases hx
    rfl
  · rw [List.getElem?_eq_none (by rw [enu_len, List.length_map]; omega), List.getElem?_eq_none (by rw [List.length_map, List.length_range]; omega)]
theorem T_pairAt {far : Nat → Nat → Int} {ws : List (Int × Option Int)} : T__pair_at (matD ws.length far) (winsD ws) = S.ret (optD ((findP far ws).map pairOD)) := by
  unfold T__pair_at
  simp only [S.ret_bind, enu_wins, S.lift_some, S.bind_assoc]
  rw [foldF_find' fun i => (List.range ws.length).findSome? fun j => if exclB far ws i j = true then some (pairOD (i, j)) else none]
  · rw [S.ret_bind]
    have e : ((List.range ws.length).findSome? fun i => (List.range ws.length).findSome? fun j => if exclB far ws i j = true then some (pairOD (i, j)) else none) = (findP far ws).map pairOD := by
      unfold findP findPr
      rw [← findSome_map]
      refine findSome_congr fun i _ => ?_
      rw [← findSome_map]
      refine findSome_congr fun j _ => ?_
      cases exclB far ws i j <;> rfl
    rw [e]
    cases (findP far ws).map pairOD <;> rfl
  · intro i hi
    have hi := List.mem_range.mp hi
    simp only [un2_t, winD, S.lift_some, S.ret_bind]
    rw [foldF_find' (enc := fun k => PyData.tuple [mkD k, PyData.tuple [.int (wAt ws k).1, lastD (wAt ws k).2]]) fun j => if exclB far ws i j = true then some (pairOD (i, j)) else none]
    · rw [S.ret_bind]
      cases (List.range ws.length).findSome? fun j => if exclB far ws i j = true then some (pairOD (i, j)) else none <;> rfl
    · intro j hj
      have hj := List.mem_range.mp hj
      have e1 : oIx (.list (arr ws.length (far i))) (mkD j) = some (.int (far i j)) := oIx_arr hj
      simp only [un2_t, S.lift_some, S.ret_bind]
      unfold exclB
      cases (wAt ws j).2 with
      | none => rfl
      | some last =>
        simp only [lastD, cIsN_int, S.lift_some, S.ret_bind, Bool.xor_false, bAnd, if_true, oIx_mat hi, e1, oAdd_i, cGt_i, decide_eq_true_eq]
        split <;> rfl
theorem zip_wa {n : Nat} {ws : List (Int × Option Int)} (hw : ws.length = n) (d : Nat → Int) : ziD (winsD ws) (.list (arr n d)) = some ((List.range n).map fun k => .tuple [winD (wAt ws k), .int (d k)]) := by
  subst hw
  show some (zipD (ws.map winD) (arr ws.length d)) = _
  congr 1
  refine List.ext_getElem? fun i => ?_
  unfold zipD arr
  rw [List.getElem?_zipWith, List.getElem?_map, List.getElem?_map, List.getElem?_map]
  by_cases hi : i < ws.length
  · rw [List.getElem?_range hi, wAt_get hi]
    rfl
  · rw [List.getElem?_eq_none (by simpa using hi), List.getElem?_eq_none (by simpa using hi)]
    rfl
end Pf

set_option maxHeartbeats 1000000
namespace Pf
open PySem PySem.Spec PyProof.Rows L2
end Pf

set_option maxHeartbeats 1000000
namespace Pf
open PySem PySem.Spec PyProof.Rows L2
/-! ### equality of data without bools and dicts -/
mutual
def clean : PyData → Bool
  | .none => true
  | .int _ => true
  | .str _ => true
  | .bool _ => false
  | .dict _ => false
  | .list xs => cleanAll xs
  | .tuple xs => cleanAll xs
def cleanAll : List PyData → Bool
  | [] => true
  | x :: xs => clean x && cleanAll xs
end
theorem cleanAll_mem : ∀ {ds : List PyData}, (∀ d ∈ ds, clean d = true) → cleanAll ds = true
  | [], _ => by simp only [cleanAll]
  | d :: ds, h => by simp only [cleanAll, h d List.mem_cons_self, cleanAll_mem fun e he => h e (List.mem_cons_of_mem _ he), Bool.and_self]
mutual
theorem eqv_clean : ∀ (d e : PyData), clean d = true → clean e = true → (PyData.eqv d e = true ↔ d = e)
  | .none, .none, _, _ => by simp [PyData.eqv]
  | .none, .int _, _, _ => by simp [PyData.eqv]
  | .none, .str _, _, _ => by simp [PyData.eqv]
  | .none, .list _, _, _ => by simp [PyData.eqv]
  | .none, .tuple _, _, _ => by simp [PyData.eqv]
  | .int _, .none, _, _ => by simp [PyData.eqv]
  | .int i, .int j, _, _ => by simp [PyData.eqv]
  | .int _, .str _, _, _ => by simp [PyData.eqv]
  | .int _, .list _, _, _ => by simp [PyData.eqv]
  | .int _, .tuple _, _, _ => by simp [PyData.eqv]
  | .str _, .none, _, _ => by simp [PyData.eqv]
  | .str _, .int _, _, _ => by simp [PyData.eqv]
  | .str x, .str y, _, _ => by simp [PyData.eqv]
  | .str _, .list _, _, _ => by simp [PyData.eqv]
  | .str _, .tuple _, _, _ => by simp [PyData.eqv]
  | .list _, .none, _, _ => by simp [PyData.eqv]
  | .list _, .int _, _, _ => by simp [PyData.eqv]
  | .list _, .str _, _, _ => by simp [PyData.eqv]
  | .list xs, .list ys, h1, h2 => by
    simp only [clean] at h1 h2
    simp only [PyData.eqv, PyData.list.injEq]
    exact eqvAll_clean xs ys h1 h2
  | .list _, .tuple _, _, _ => by simp [PyData.eqv]
  | .tuple _, .none, _, _ => by simp [PyData.eqv]
  | .tuple _, .int _, _, _ => by simp [PyData.eqv]
  | .tuple _, .str _, _, _ => by simp [PyData.eqv]
  | .tuple _, .list _, _, _ => by simp [PyData.eqv]
  | .tuple xs, .tuple ys, h1, h2 => by
    simp only [clean] at h1 h2
    simp only [PyData.eqv, PyData.tuple.injEq]
    exact eqvAll_clean xs ys h1 h2
  | .bool _, _, h, _ => by simp [clean] at h
  | .dict _, _, h, _ => by simp [clean] at h
  | .none, .bool _, _, h => by simp [clean] at h
  | .none, .dict _, _, h => by simp [clean] at h
  | .int _, .bool _, _, h => by simp [clean] at h
  | .int _, .dict _, _, h => by simp [clean] at h
  | .str _, .bool _, _, h => by simp [clean] at h
  | .str _, .dict _, _, h => by simp [clean] at h
  | .list _, .bool _, _, h => by simp [clean] at h
  | .list _, .dict _, _, h => by simp [clean] at h
  | .tuple _, .bool _, _, h => by simp [clean] at h
  | .tuple _, .dict _, _, h => by simp [clean] at h
theorem eqvAll_clean : ∀ (ds es : List PyData), cleanAll ds = true → cleanAll es = true → (PyData.eqvAll ds es = true ↔ ds = es)
  | [], [], _, _ => by simp [PyData.eqvAll]
  | [], _ :: _, _, _ => by simp [PyData.eqvAll]
  | _ :: _, [], _, _ => by simp [PyData.eqvAll]
  | x :: xs, y :: ys, h1, h2 => by
    simp only [cleanAll, Bool.and_eq_true] at h1 h2
    simp only [PyData.eqvAll, Bool.and_eq_true, List.cons.injEq]
    rw [eqv_clean x y h1.1 h2.1, eqvAll_clean xs ys h1.2 h2.2]
end
theorem layAll_mem : ∀ {ds : List PyData}, (∀ d ∈ ds, d.canLay0 = true) → PyData.canLayAll0 ds = true
  | [], _ => by simp only [PyData.canLayAll0]
  | d :: ds, h => by simp only [PyData.canLayAll0, h d List.mem_cons_self, layAll_mem fun e he => h e (List.mem_cons_of_mem _ he), Bool.and_self]
theorem depAll_mem {k : Nat} : ∀ {ds : List PyData}, (∀ d ∈ ds, d.depth ≤ k) → PyData.depthAll ds ≤ k
  | [], _ => by
    simp only [PyData.depthAll]
    exact Nat.zero_le _
  | d :: ds, h => by
    simp only [PyData.depthAll]
    exact Nat.max_le.mpr ⟨h d List.mem_cons_self, depAll_mem fun e he => h e (List.mem_cons_of_mem _ he)⟩
/-- data without bools and dicts, at most so deep -/
structure Cln (d : PyData) (k : Nat) : Prop where
  lay : d.canLay0 = true
  dp : d.depth ≤ k
  cl : clean d = true
theorem Cln.non : Cln .none 0 := ⟨by simp only [PyData.canLay0], by simp only [PyData.depth]; exact Nat.le_refl _, by simp only [clean]⟩
theorem Cln.int (i : Int) : Cln (.int i) 0 := ⟨by simp only [PyData.canLay0], by simp only [PyData.depth]; exact Nat.le_refl _, by simp only [clean]⟩
theorem Cln.tuple {ds : List PyData} {k : Nat} (h : ∀ d ∈ ds, Cln d k) : Cln (.tuple ds) (k + 1) := ⟨by
  simp only [PyData.canLay0]
  exact layAll_mem fun d hd => (h d hd).lay, by
  simp only [PyData.depth]
  have := depAll_mem (k := k) fun d hd => (h d hd).dp
  omega, by
  simp only [clean]
  exact cleanAll_mem fun d hd => (h d hd).cl⟩
theorem Cln.list {ds : List PyData} {k : Nat} (h : ∀ d ∈ ds, Cln d k) : Cln (.list ds) (k + 1) := ⟨by
  simp only [PyData.canLay0]
  exact layAll_mem fun d hd => (h d hd).lay, by
  simp only [PyData.depth]
  have := depAll_mem (k := k) fun d hd => (h d hd).dp
  omega, by
  simp only [clean]
  exact cleanAll_mem fun d hd => (h d hd).cl⟩
theorem Cln.up {d : PyData} {k k' : Nat} (h : Cln d k) (hk : k ≤ k') : Cln d k' := ⟨h.lay, Nat.le_trans h.dp hk, h.cl⟩
theorem Cln.shaped {d : PyData} {k : Nat} (h : Cln d k) (hk : k ≤ 64) : SeqAt.shaped d = true := by
  unfold SeqAt.shaped
  rw [h.lay, decide_eq_true (Nat.le_trans h.dp hk)]
  rfl
theorem Cln.tab (ts : List Int) : Cln (tabD ts) 1 := Cln.tuple fun d hd => by
  obtain ⟨t, _, rfl⟩ := List.mem_map.mp hd
  exact Cln.int t
theorem cEqn_cln {n : Bool} {d e : PyData} {k : Nat} (hd : Cln d k) (he : Cln e k) (hk : k ≤ 64) {b : Bool} (h : b = true ↔ d = e) : cEqn n d e = some (Bool.xor n b) := by
  have q : ∀ c : Bool, (c = true ↔ d = e) → c = b := fun c hc => by
    cases c <;> cases b <;> simp_all
  unfold cEqn
  split
  · rename_i x y
    rw [q (decide (x = y)) (by rw [decide_eq_true_eq, PyData.str.injEq])]
  · rename_i x y
    rw [q (decide (x = y)) (by rw [decide_eq_true_eq, PyData.int.injEq])]
  · rw [hd.shaped hk, he.shaped hk, Bool.and_self, if_pos rfl, q _ (eqv_clean d e hd.cl he.cl)]
theorem cNe_cln {d : PyData} {k : Nat} (hd : Cln d k) (hk : k ≤ 64) : cNe d d = some false := cEqn_cln hd hd hk (b := true) ⟨fun _ => rfl, fun _ => rfl⟩
end Pf

set_option maxHeartbeats 1000000
namespace Pf
open PySem PySem.Spec PyProof.Rows L2
/-! ### the shared helpers of the laws k18 to k27 -/
theorem can_drawC {L : Int} (h0 : 0 < L) (h1 : L < 1073741824) : Can 1 (T__law_next (.int L)) fun d => ∃ r : Int, d = .int r ∧ 0 ≤ r ∧ r < L := Can.drawC h0 h1
theorem can_treeC {most long : Int} (h0 : 1 ≤ most) (h1 : most ≤ 12) (l0 : 1 ≤ long) (l1 : long ≤ 1000000) : Can 50 (T__law_tree (.int most) (.int long)) fun d => ∃ rows : List (Int × Int), d = treeD rows ∧ TreeOk rows ∧ (rows.length : Int) + 1 ≤ most := by
  unfold T__law_tree
  simp only [S.ret_bind, u1, S.bind_assoc, S.lift_some]
  refine Can.up (n := 1 + (1 + (4 * 11 + 0))) ?_ (by omega)
  refine (can_drawC (by omega) (by omega)).bind fun d ⟨m, hd, m0, m1⟩ => ?_
  subst hd
  refine (can_drawC (by decide) (by decide)).bind fun d ⟨way, hd, w0, w1⟩ => ?_
  subst hd
  simp only [rngI m0 (show m ≤ 1000000000 by omega), S.lift_some, S.ret_bind]
  refine Can.up (n := 4 * ((List.range m.toNat).map mkD).length + 0) ?_ (by rw [List.length_map, List.length_range]; omega)
  refine (Can.foldM (fun i (s : List PyData) => ∃ rows : List (Int × Int), s = rows.map rowD ∧ TreeOk rows ∧ rows.length = i) 0 ⟨[], rfl, TreeOk.nil, rfl⟩ (fun i s x ⟨rows, hs, ok, hl⟩ hx => ?_)).bind fun s ⟨rows, hs, ok, hl⟩ => ?_
  · obtain ⟨hi, rfl⟩ := range_at hx
    subst hs
    rw [Nat.zero_add] at hl ⊢
    simp only [mkD, oAdd_i, oSub_i, S.lift_some, S.ret_bind]
    refine Can.up (n := 1 + (1 + (1 + (1 + 0)))) ?_ (by omega)
    refine (can_drawC (L := (i : Int) + 1) (by omega) (by omega)).bind fun d ⟨q, hd, q0, q1⟩ => ?_
    subst hd
    refine (can_drawC (by decide) (by decide)).bind fun d ⟨e, hd, e0, e1⟩ => ?_
    subst hd
    simp only [oSub_i, oMax2_i, S.lift_some, S.ret_bind]
    obtain ⟨y, hy, ey⟩ := oIx_mem (xs := [PyData.int q, .int (i : Int), .int 0, .int (max 0 ((i : Int) - 1 - e))]) w0 w1
    obtain ⟨p, rfl, p0, p1⟩ : ∃ p : Int, y = .int p ∧ 0 ≤ p ∧ p ≤ i := by
      simp only [List.mem_cons, List.not_mem_nil, or_false] at hy
      rcases hy with rfl | rfl | rfl | rfl
      · exact ⟨_, rfl, by omega, by omega⟩
      · exact ⟨_, rfl, by omega, by omega⟩
      · exact ⟨_, rfl, by omega, by omega⟩
      · exact ⟨_, rfl, by omega, by omega⟩
    simp only [ey, S.lift_some, S.ret_bind, oMin2_i]
    refine (can_drawC (by decide) (by decide)).bind fun d ⟨z, hd, z0, z1⟩ => ?_
    subst hd
    obtain ⟨y, hy, ey⟩ := oIx_mem (xs := [PyData.int long, .int (min long 3)]) z0 z1
    obtain ⟨top, rfl, t0, t1⟩ : ∃ top : Int, y = .int top ∧ 1 ≤ top ∧ top ≤ 1000000 := by
      simp only [List.mem_cons, List.not_mem_nil, or_false] at hy
      rcases hy with rfl | rfl
      · exact ⟨_, rfl, by omega, by omega⟩
      · exact ⟨_, rfl, by omega, by omega⟩
    simp only [ey, S.lift_some, S.ret_bind]
    refine (can_drawC (L := top) (by omega) (by omega)).bind fun d ⟨l, hd, l0, l1⟩ => ?_
    subst hd
    simp only [oAdd_i, S.lift_some, S.ret_bind]
    rw [appD_ok (by rw [List.length_map]; omega)]
    simp only [S.lift_some]
    refine Can.ret ⟨rows ++ [(p, 1 + l)], ?_, ok.snoc p0 (by omega) (by omega) (by omega), by rw [List.length_append, hl]; rfl⟩
    rw [List.map_append]
    rfl
  · subst hs
    rw [List.length_map, List.length_range] at hl
    simp only [oTuple_l, S.lift_some]
    refine Can.ret ⟨rows, rfl, ok, by omega⟩
/-! ### distances by climbing -/
theorem itW_gap {rows : List (Int × Int)} (ok : TreeOk rows) {c : PyData × PyData × PyData → S Bool} {f : PyData × PyData × PyData → S (PyData × PyData × PyData)}
    (hc : ∀ (a b : Nat) (x : Int), c (mkD a, mkD b, .int x) = S.ret (!decide (a = b)))
    (hf : ∀ (a b : Nat) (x : Int), a ≤ rows.length → b ≤ rows.length → a ≠ b → f (mkD a, mkD b, .int x) = S.ret (mkD (par rows (max a b)), mkD (min a b), .int (x + lnR rows (max a b)))) :
    ∀ (n a b : Nat) (x : Int), a + b < n → a ≤ rows.length → b ≤ rows.length → ∃ s, S.itW c f n (mkD a, mkD b, .int x) = S.ret s ∧ s.2.2 = .int (x + dist rows a b) := by
  intro n
  induction n with
  | zero => intro a b x h; omega
  | succ n ih =>
    intro a b x h ha hb
    unfold S.itW
    rw [hc, S.ret_bind]
    by_cases e : a = b
    · subst e
      rw [decide_eq_true rfl]
      refine ⟨_, rfl, ?_⟩
      rw [dist_eq ok]
      show PyData.int x = .int (x + 0)
      rw [Int.add_zero]
    · rw [decide_eq_false e]
      show ∃ s, (if true = true then _ else _) = _ ∧ _
      rw [if_pos rfl, hf a b x ha hb e, S.ret_bind]
      obtain ⟨r, _, _, _, hp, _⟩ := row_of ok (m := max a b) (by omega) (by omega)
      obtain ⟨s, e1, e2⟩ := ih (par rows (max a b)) (min a b) (x + lnR rows (max a b)) (by omega) (by omega) (by omega)
      refine ⟨s, e1, ?_⟩
      rw [e2]
      congr 1
      rcases Nat.lt_or_gt_of_ne e with l | l
      · rw [Nat.max_eq_right (by omega), Nat.min_eq_left (by omega), dist_comm ok _ a b (Nat.lt_succ_self _) ha hb, dist_gt ok l hb]
        omega
      · rw [Nat.max_eq_left (by omega), Nat.min_eq_right (by omega), dist_gt ok l ha]
        omega
theorem T_gapC {rows : List (Int × Int)} (g : TreeG rows) {a b : Nat} (ha : a ≤ rows.length) (hb : b ≤ rows.length) : T__law_gap (treeD rows) (mkD a) (mkD b) = S.ret (.int (dist rows a b)) := by
  have ok := g.ok
  have hl := g.len
  unfold T__law_gap
  simp only [S.ret_bind]
  refine S.bind_ex (itW_gap ok (fun a b x => ?_) (fun a b x ha hb ne => ?_) 100 a b 0 (by omega) ha hb) ?_
  · simp only [mkD]
    have : cNe (.int (a : Int)) (.int (b : Int)) = some (!decide (a = b)) := (cNe_i _ _).trans (by congr 2; exact decide_eq_decide.mpr (by omega))
    rw [this]
    rfl
  · have c1 : cLt (mkD a) (mkD b) = some (decide (a < b)) := by
      show some (decide ((a : Int) < (b : Int))) = _
      simp
    obtain ⟨r, er, hp, hln, hlt, _⟩ := row_of ok (m := max a b) (by omega) (by omega)
    rw [c1, S.lift_some, S.ret_bind]
    rcases Nat.lt_or_gt_of_ne ne with l | l
    · have em : max a b = b := by omega
      have en : min a b = a := by omega
      rw [em] at er hp hln
      rw [em, en]
      simp only [decide_eq_true l, if_true, S.ret_bind, mkD, oSub_i, S.lift_some, oIx_row (show 0 < b by omega) er, oIx_row0, oIx_row1, oAdd_i, hp, hln]
    · have em : max a b = a := by omega
      have en : min a b = b := by omega
      rw [em] at er hp hln
      rw [em, en]
      simp only [decide_eq_false (show ¬ a < b by omega), Bool.false_eq_true, if_false, S.ret_bind, mkD, oSub_i, S.lift_some, oIx_row (show 0 < a by omega) er, oIx_row0, oIx_row1, oAdd_i, hp, hln]
  · rintro s h
    rw [h, Int.zero_add]
theorem T_gapI {rows : List (Int × Int)} (g : TreeG rows) {a b : Int} (a0 : 0 ≤ a) (ha : a ≤ rows.length) (b0 : 0 ≤ b) (hb : b ≤ rows.length) : T__law_gap (treeD rows) (.int a) (.int b) = S.ret (.int (dist rows a.toNat b.toNat)) := by
  have := T_gapC g (a := a.toNat) (b := b.toNat) (by omega) (by omega)
  unfold mkD at this
  rwa [show ((a.toNat : Nat) : Int) = a by omega, show ((b.toNat : Nat) : Int) = b by omega] at this
/-! ### pushes and falls -/
structure PushOk (rows : List (Int × Int)) (late : Int) (ps : List (Int × Int)) : Prop where
  ok : ∀ p ∈ ps, (0 ≤ p.1 ∧ p.1 ≤ rows.length) ∧ 0 ≤ p.2 ∧ p.2 ≤ late
theorem T_fallsC {rows : List (Int × Int)} (g : TreeG rows) {late : Int} {ps : List (Int × Int)} (hne : ps ≠ []) (hl : ps.length ≤ 1000) (h : PushOk rows late ps) : T__law_falls (treeD rows) (treeD ps) = S.ret (tabD (fallsL (dist rows) ps (rows.length + 1))) := by
  have hg := g.len
  have e1 : ((rows.length : Nat) : Int) + 1 = ((rows.length + 1 : Nat) : Int) := by omega
  have es : seqD (treeD ps) = some (ps.map rowD) := rfl
  unfold T__law_falls
  simp only [S.ret_bind, oLen_tree, S.lift_some, oAdd_i, e1, rngD_ok (show rows.length + 1 ≤ 1000000000 by omega), fromTo_map, S.bind_ret, es]
  refine S.foldM_bind (fun i (s : List PyData) => s = (fallsL (dist rows) ps i).map .int) rfl (fun i s x hs hx => ?_) fun s hs => ?_
  · obtain ⟨hi, rfl⟩ := range_at hx
    subst hs
    rw [szD_ok (by rw [List.length_map]; omega)]
    simp only [S.lift_some, S.ret_bind]
    rw [S.mapM_map, S.mapM_ret (g := fun p => PyData.int (p.2 + dist rows p.1.toNat i))]
    · have e : (ps.map fun p => PyData.int (p.2 + dist rows p.1.toNat i)) = (ps.map fun p => p.2 + dist rows p.1.toNat i).map PyData.int := by
        rw [List.map_map]
        rfl
      rw [S.ret_bind, S.ret_bind, e, oBest_min (fun z => hne (List.map_eq_nil_iff.mp z)), S.lift_some, S.ret_bind, appD_ok (by unfold fallsL; rw [List.length_map, List.length_map, List.length_range]; omega)]
      refine ⟨_, rfl, ?_⟩
      unfold fallsL
      rw [List.range_succ, List.map_append, List.map_append]
      rfl
    · intro p hp
      obtain ⟨⟨p0, p1⟩, _⟩ := h.ok p hp
      have tg := T_gapI g (a := p.1) (b := (i : Int)) p0 p1 (by omega) (by omega)
      rw [show ((i : Int)).toNat = i by omega] at tg
      simp only [rowD, un2_t, S.lift_some, S.ret_bind, u3, mkD, tg, oAdd_i, S.noEx_ret]
  · rw [hs, List.length_map, List.length_range, oTuple_l, S.lift_some]
    rfl
theorem falls_lenC (d : Nat → Nat → Int) (ps : List (Int × Int)) (n : Nat) : (fallsL d ps n).length = n := by
  unfold fallsL
  rw [List.length_map, List.length_range]
theorem falls_at (d : Nat → Nat → Int) (ps : List (Int × Int)) {n m : Nat} (h : m < n) : tAt (fallsL d ps n) m = minL (ps.map fun p => p.2 + d p.1.toNat m) := by
  unfold tAt fallsL
  rw [List.getElem?_map, List.getElem?_range h]
  rfl
theorem falls_bd {rows : List (Int × Int)} (g : TreeG rows) {late : Int} {ps : List (Int × Int)} (hne : ps ≠ []) (h : PushOk rows late ps) {m : Nat} (hm : m ≤ rows.length) : 0 ≤ tAt (fallsL (dist rows) ps (rows.length + 1)) m ∧ tAt (fallsL (dist rows) ps (rows.length + 1)) m ≤ late + 22000000 := by
  have hl := g.len
  rw [falls_at _ _ (by omega)]
  obtain ⟨a1, a2⟩ := minL_spec (xs := ps.map fun p => p.2 + dist rows p.1.toNat m) fun z => hne (List.map_eq_nil_iff.mp z)
  obtain ⟨p, hp, e⟩ := List.mem_map.mp a1
  obtain ⟨⟨p0, p1⟩, p2, p3⟩ := h.ok p hp
  have b := dist_bound g.ok _ p.1.toNat m (Nat.lt_succ_self _) (by omega) hm
  omega
theorem can_pushesC {rows : List (Int × Int)} (g : TreeG rows) {most late : Int} (m0 : 1 ≤ most) (m1 : most ≤ 100) (l0 : 0 ≤ late) (l1 : late < 1073741823) : Can 201 (T__law_pushes (treeD rows) (.int most) (.int late)) fun d => ∃ ps : List (Int × Int), d = treeD ps ∧ ps ≠ [] ∧ (ps.length : Int) ≤ most ∧ PushOk rows late ps := by
  have hg := g.len
  unfold T__law_pushes
  simp only [S.ret_bind, u1, S.bind_assoc, S.lift_some]
  refine Can.up (n := 1 + (2 * 100 + 0)) ?_ (by omega)
  refine (can_drawC (by omega) (by omega)).bind fun d ⟨m, hd, m0, m1⟩ => ?_
  subst hd
  simp only [oAdd_i, rngI (show (0 : Int) ≤ 1 + m by omega) (show 1 + m ≤ 1000000000 by omega), S.lift_some, S.ret_bind]
  refine Can.up (n := 2 * ((List.range (1 + m).toNat).map mkD).length + 0) ?_ (by rw [List.length_map, List.length_range]; omega)
  refine (Can.foldM (fun i (s : List PyData) => ∃ ps : List (Int × Int), s = ps.map rowD ∧ PushOk rows late ps ∧ ps.length = i) 0 ⟨[], rfl, ⟨fun p hp => nomatch hp⟩, rfl⟩ (fun i s x ⟨ps, hs, ok, hl⟩ hx => ?_)).bind fun s ⟨ps, hs, ok, hl⟩ => ?_
  · obtain ⟨hi, rfl⟩ := range_at hx
    subst hs
    rw [Nat.zero_add] at hl ⊢
    simp only [oLen_tree, oAdd_i, S.lift_some, S.ret_bind]
    refine Can.up (n := 1 + (1 + 0)) ?_ (by omega)
    refine (can_drawC (by omega) (by omega)).bind fun d ⟨q, hd, q0, q1⟩ => ?_
    subst hd
    refine (can_drawC (by omega) (by omega)).bind fun d ⟨e, hd, e0, e1⟩ => ?_
    subst hd
    rw [appD_ok (by rw [List.length_map]; omega)]
    simp only [S.lift_some]
    refine Can.ret ⟨ps ++ [(q, e)], by rw [List.map_append]; rfl, ⟨fun p hp => ?_⟩, by rw [List.length_append, hl]; rfl⟩
    rcases List.mem_append.mp hp with hp | hp
    · exact ok.ok p hp
    · rw [List.mem_singleton.mp hp]
      exact ⟨⟨q0, by show q ≤ _; omega⟩, e0, by show e ≤ late; omega⟩
  · subst hs
    rw [Nat.zero_add, List.length_map, List.length_range] at hl
    simp only [oTuple_l, S.lift_some]
    exact Can.ret ⟨ps, rfl, fun z => by rw [z] at hl; simp at hl; omega, by omega, ok⟩
end Pf

set_option maxHeartbeats 1000000
namespace Pf
open PySem PySem.Spec PyProof.Rows L2
end Pf

set_option maxHeartbeats 1000000
namespace Pf
open PySem PySem.Spec PyProof.Rows L2
/-! ### seen falls and conflicts -/
structure SeenOk (rows : List (Int × Int)) (ps : List (Int × Int)) : Prop where
  asc : ps.Pairwise fun p q => p.1 < q.1
  ok : ∀ p ∈ ps, (0 ≤ p.1 ∧ p.1 ≤ rows.length) ∧ 0 ≤ p.2 ∧ p.2 ≤ 1100000000
  len : ps.length ≤ rows.length + 1
theorem Cln.row (r : Int × Int) : Cln (rowD r) 1 := Cln.tuple fun d hd => by
  rcases List.mem_cons.mp hd with rfl | hd
  · exact Cln.int _
  · rw [List.mem_singleton.mp hd]
    exact Cln.int _
theorem stI_at {ds : List PyData} {i : Nat} (h : i < ds.length) (d : PyData) : stI ds (.int (i : Int)) d = some (ds.set i d) := by
  show (ixN ds.length (i : Int)).map _ = _
  rw [ixN_lt (by omega) (by omega)]
  rfl
theorem SeenOk.put {rows ps : List (Int × Int)} (h : SeenOk rows ps) {i : Nat} {p : Int × Int} (e : ps[i]? = some p) {x : Int} (x0 : 0 ≤ x) (x1 : x ≤ 1100000000) : SeenOk rows (ps.set i (p.1, x)) := by
  have hi := (List.getElem?_eq_some_iff.mp e).1
  have hp := (List.getElem?_eq_some_iff.mp e).2
  refine ⟨?_, fun q hq => ?_, by rw [List.length_set]; exact h.len⟩
  · rw [List.pairwise_iff_getElem]
    intro a b ha hb hab
    have key := List.pairwise_iff_getElem.mp h.asc a b (by simpa using ha) (by simpa using hb) hab
    rw [List.getElem_set, List.getElem_set]
    split
    · rename_i z
      subst z
      split
      · omega
      · rw [hp] at key
        exact key
    · split
      · rename_i z
        subst z
        rw [hp] at key
        exact key
      · exact key
  · rcases List.mem_or_eq_of_mem_set hq with z | z
    · exact h.ok q z
    · rw [z]
      exact ⟨(h.ok p (List.mem_of_getElem? e)).1, x0, x1⟩
end Pf

set_option maxHeartbeats 1000000
namespace Pf
open PySem PySem.Spec PyProof.Rows L2
/-! ### the smallest pair in conflict -/
end Pf

set_option maxHeartbeats 1000000
namespace Pf
open PySem PySem.Spec PyProof.Rows L2
theorem SeenOk.nil (rows : List (Int × Int)) : SeenOk rows [] := ⟨List.Pairwise.nil, (by intro p hp; cases hp), Nat.zero_le _⟩
theorem SeenOk.drop {rows ps : List (Int × Int)} (h : SeenOk rows ps) (k : Nat) : SeenOk rows (ps.drop k) := ⟨h.asc.drop, fun p hp => h.ok p (List.mem_of_mem_drop hp), by rw [List.length_drop]; have := h.len; omega⟩
theorem SeenOk.take {rows ps : List (Int × Int)} (h : SeenOk rows ps) (k : Nat) : SeenOk rows (ps.take k) := ⟨h.asc.take, fun p hp => h.ok p (List.mem_of_mem_take hp), by rw [List.length_take]; have := h.len; omega⟩
theorem pick2 {a b : Int} {i : Nat} {P : Int → Prop} (ha : P a) (hb : P b) : ∃ x, oIx (.list [.int a, .int b]) (.int ((i : Int) % 2)) = some (.int x) ∧ P x := by
  obtain ⟨y, hy, ey⟩ := oIx_mem (xs := [PyData.int a, .int b]) (i := (i : Int) % 2) (by omega) (show (i : Int) % 2 < 2 by omega)
  simp only [List.mem_cons, List.not_mem_nil, or_false] at hy
  rcases hy with rfl | rfl
  · exact ⟨_, ey, ha⟩
  · exact ⟨_, ey, hb⟩
end Pf

set_option maxHeartbeats 1000000
namespace Pf
open PySem PySem.Spec PyProof.Rows L2
/-! ### the earliest table -/
def lowI (rows : List (Int × Int)) (ws : List (Int × Option Int)) (m : Nat) : Int := maxL ((List.range ws.length).map fun k => (wAt ws k).1 - dist rows k m)
def lowL (rows : List (Int × Int)) (ws : List (Int × Option Int)) : List Int := (List.range ws.length).map (lowI rows ws)
theorem low_ne {rows : List (Int × Int)} {ws : List (Int × Option Int)} (hw : ws.length = rows.length + 1) (f : Nat → Int) : ((List.range ws.length).map f) ≠ [] := fun z => by
  have := congrArg List.length z
  rw [List.length_map, List.length_range, hw] at this
  exact absurd this (Nat.succ_ne_zero _)
theorem low_spec {rows : List (Int × Int)} {ws : List (Int × Option Int)} (hw : ws.length = rows.length + 1) (m : Nat) : (∃ k, k < ws.length ∧ lowI rows ws m = (wAt ws k).1 - dist rows k m) ∧ ∀ k, k < ws.length → (wAt ws k).1 - dist rows k m ≤ lowI rows ws m := by
  obtain ⟨h1, h2⟩ := maxL_spec (low_ne hw fun k => (wAt ws k).1 - dist rows k m)
  obtain ⟨k, hk, e⟩ := List.mem_map.mp h1
  exact ⟨⟨k, List.mem_range.mp hk, e.symm⟩, fun k hk => h2 _ (List.mem_map.mpr ⟨k, List.mem_range.mpr hk, rfl⟩)⟩
theorem T_check {n : Nat} {far : Nat → Nat → Int} {ws : List (Int × Option Int)} (hw : ws.length = n) :
    T__check_some_table (matD n far) (winsD ws) = match findP far ws with | none => S.ret .none | some p => S.thr ⟨"NoTable", some ("pair", pairOD p)⟩ := by
  subst hw
  unfold T__check_some_table
  simp only [S.ret_bind, u2, T_pairAt]
  cases findP far ws with
  | none => rfl
  | some p => rfl
theorem T_low {rows : List (Int × Int)} (g : TreeG rows) {ws : List (Int × Option Int)} (hw : ws.length = rows.length + 1) {m : Nat} (hm : m ≤ rows.length) :
    T__earliest_number (.list (arr (rows.length + 1) (dist rows m))) (winsD ws) = S.ret (.int (lowI rows ws m)) := by
  have hl := g.len
  unfold T__earliest_number
  simp only [S.ret_bind, zip_wa hw, S.lift_some, S.bind_assoc]
  rw [szD_ok (by rw [List.length_map, List.length_range]; omega), S.lift_some, S.ret_bind, S.mapM_map, S.mapM_ret (g := fun k => PyData.int ((wAt ws k).1 - dist rows k m))]
  · have e2 : ((List.range (rows.length + 1)).map fun k => PyData.int ((wAt ws k).1 - dist rows k m)) = ((List.range ws.length).map fun k => (wAt ws k).1 - dist rows k m).map PyData.int := by
      rw [List.map_map, hw]
      rfl
    rw [S.ret_bind, e2, oBest_max (low_ne hw _), S.lift_some]
    rfl
  · intro k hk
    have hk := List.mem_range.mp hk
    have d := dist_comm g.ok _ m k (Nat.lt_succ_self _) hm (by omega)
    simp only [un2_t, winD, S.lift_some, S.ret_bind, oSub_i, S.noEx_ret, d]
theorem T_earlyAt {rows : List (Int × Int)} (g : TreeG rows) {ws : List (Int × Option Int)} (hw : ws.length = rows.length + 1) :
    T_earliest_at (matD (rows.length + 1) (dist rows)) (winsD ws) = match findP (dist rows) ws with | none => S.ret (tabD (lowL rows ws)) | some p => S.thr ⟨"NoTable", some ("pair", pairOD p)⟩ := by
  have hl := g.len
  unfold T_earliest_at
  simp only [S.ret_bind, u2, T_check hw]
  cases findP (dist rows) ws with
  | some p => simp only [S.thr_bind]
  | none =>
    have es : seqD (matD (rows.length + 1) (dist rows)) = some ((List.range (rows.length + 1)).map fun i => PyData.list (arr (rows.length + 1) (dist rows i))) := rfl
    simp only [S.ret_bind, es, S.lift_some, S.bind_assoc]
    rw [szD_ok (by rw [List.length_map, List.length_range]; omega), S.lift_some, S.ret_bind, S.mapM_map, S.mapM_ret (g := fun m => PyData.int (lowI rows ws m))]
    · rw [S.ret_bind, oTuple_l, S.lift_some]
      unfold tabD lowL
      rw [List.map_map, hw]
      rfl
    · intro k hk
      have hk := List.mem_range.mp hk
      rw [T_low g hw (show k ≤ rows.length by omega), S.noEx_ret]
/-! ### it fits -/
theorem low_self {rows : List (Int × Int)} (ok : TreeOk rows) {ws : List (Int × Option Int)} (hw : ws.length = rows.length + 1) {m : Nat} (hm : m ≤ rows.length) : (wAt ws m).1 ≤ lowI rows ws m := by
  have := (low_spec (rows := rows) hw m).2 m (by omega)
  rw [dist_eq ok] at this
  omega
theorem low_le {rows : List (Int × Int)} (ok : TreeOk rows) {ws : List (Int × Option Int)} (hw : ws.length = rows.length + 1) {m : Nat} (hm : m ≤ rows.length) {top : Int} (h : ∀ w ∈ ws, w.1 ≤ top) : lowI rows ws m ≤ top := by
  obtain ⟨k, hk, e⟩ := (low_spec (rows := rows) hw m).1
  have b := (dist_bound ok _ k m (Nat.lt_succ_self _) (by omega) hm).1
  have := h _ (List.mem_of_getElem? (wAt_get hk))
  omega
theorem low_row {rows : List (Int × Int)} (ok : TreeOk rows) {ws : List (Int × Option Int)} (hw : ws.length = rows.length + 1) {m : Nat} (h0 : 0 < m) (hm : m ≤ rows.length) : lowI rows ws m ≤ lowI rows ws (par rows m) + lnR rows m ∧ lowI rows ws (par rows m) ≤ lowI rows ws m + lnR rows m := by
  obtain ⟨k, hk, e⟩ := (low_spec (rows := rows) hw m).1
  obtain ⟨k2, hk2, e2⟩ := (low_spec (rows := rows) hw (par rows m)).1
  have a1 := (low_spec (rows := rows) hw (par rows m)).2 k hk
  have a2 := (low_spec (rows := rows) hw m).2 k2 hk2
  have d1 := dist_edge_le ok (show k ≤ rows.length by omega) hm h0
  have d2 := dist_edge_le ok (show k2 ≤ rows.length by omega) hm h0
  omega
theorem findPr_none {n : Nat} {c : Nat → Nat → Bool} (h : findPr n c = none) {i j : Nat} (hi : i < n) (hj : j < n) : c i j = false := by
  unfold findPr at h
  rw [List.findSome?_eq_none_iff] at h
  have := h i (List.mem_range.mpr hi)
  rw [List.findSome?_eq_none_iff] at this
  have := this j (List.mem_range.mpr hj)
  cases hc : c i j with
  | false => rfl
  | true => rw [hc] at this; cases this
theorem low_last {rows : List (Int × Int)} (ok : TreeOk rows) {ws : List (Int × Option Int)} (hw : ws.length = rows.length + 1) (hf : findP (dist rows) ws = none) {m : Nat} (hm : m ≤ rows.length) {l : Int} (e : (wAt ws m).2 = some l) : lowI rows ws m ≤ l := by
  obtain ⟨k, hk, ek⟩ := (low_spec (rows := rows) hw m).1
  have := findPr_none hf hk (show m < ws.length by omega)
  unfold exclB at this
  rw [e] at this
  have := of_decide_eq_false this
  omega
end Pf

set_option maxHeartbeats 1000000
namespace Pf
open PySem PySem.Spec PyProof.Rows L2
/-! ### serving parts -/
theorem cIsT_non : cIs true .none .none = some false := rfl
theorem cIsT_i (i : Int) : cIs true (.int i) .none = some true := rfl
theorem cIsF_non : cIs false .none .none = some true := rfl
theorem cIsF_i (i : Int) : cIs false (.int i) .none = some false := rfl
def partB (rows : List (Int × Int)) (ws : List (Int × Option Int)) (m k : Nat) : Bool := match (wAt ws m).2 with
  | none => true
  | some l => decide (lowI rows ws k + dist rows k m ≤ l)
def partL (rows : List (Int × Int)) (ws : List (Int × Option Int)) (m : Nat) : List Nat := (List.range ws.length).filter (partB rows ws m)
def marksD (ms : List Nat) : PyData := .tuple (ms.map mkD)
theorem lowL_at {rows : List (Int × Int)} {ws : List (Int × Option Int)} {k : Nat} (h : k < ws.length) : oIx (tabD (lowL rows ws)) (mkD k) = some (.int (lowI rows ws k)) := by
  have : oIx (tabD (lowL rows ws)) (.int (k : Int)) = some (.int (tAt (lowL rows ws) k)) := oIx_tab (by unfold lowL; rw [List.length_map, List.length_range]; exact h)
  refine this.trans ?_
  unfold tAt lowL
  rw [List.getElem?_map, List.getElem?_range h]
  rfl
theorem filterMap_if {α β : Type} (p : α → Bool) (f : α → β) : ∀ xs : List α, xs.filterMap (fun x => if p x = true then some (f x) else none) = (xs.filter p).map f
  | [] => rfl
  | x :: xs => by
    rw [List.filterMap_cons]
    cases h : p x with
    | true =>
      rw [if_pos rfl, List.filter_cons_of_pos h, List.map_cons, ← filterMap_if p f xs]
    | false =>
      rw [if_neg Bool.false_ne_true, List.filter_cons_of_neg (by rw [h]; exact Bool.false_ne_true), ← filterMap_if p f xs]
theorem enZ_low {rows : List (Int × Int)} {ws : List (Int × Option Int)} {d : Nat → Int} : enZ (tabD (lowL rows ws)) (.list (arr ws.length d)) = some ((List.range ws.length).map fun k => .tuple [mkD k, .tuple [.int (lowI rows ws k), .int (d k)]]) := by
  have l1 : ((lowL rows ws).map PyData.int).length = ws.length := by unfold lowL; rw [List.length_map, List.length_map, List.length_range]
  have l2 : (arr ws.length d).length = ws.length := by unfold arr; rw [List.length_map, List.length_range]
  show (if ((lowL rows ws).map PyData.int).length ≤ (arr ws.length d).length then some (enuD (zipD ((lowL rows ws).map PyData.int) (arr ws.length d))) else none) = _
  rw [if_pos (by rw [l1, l2]; exact Nat.le_refl _)]
  congr 1
  have ez : zipD ((lowL rows ws).map PyData.int) (arr ws.length d) = (List.range ws.length).map fun k => .tuple [.int (lowI rows ws k), .int (d k)] := by
    refine List.ext_getElem? fun i => ?_
    unfold zipD arr lowL
    rw [List.getElem?_zipWith, List.getElem?_map, List.getElem?_map, List.getElem?_map, List.getElem?_map]
    by_cases hi : i < ws.length
    · rw [List.getElem?_range hi]
      rfl
    · rw [List.getElem?_eq_none (by simpa using hi)]
      rfl
  rw [ez, enu_rng]
theorem oTupRg_n {n : Nat} (h : n ≤ 1000000) : oTupRg (.int (n : Int)) = some (.tuple ((List.range n).map mkD)) := by
  show (if (decide ((0 : Int) ≤ (n : Int)) && decide ((n : Int) ≤ 1000000)) = true then some (PyData.tuple (uptoD (n : Int).toNat)) else none) = _
  rw [decide_eq_true (show (0 : Int) ≤ (n : Int) by omega), decide_eq_true (show (n : Int) ≤ 1000000 by omega), Bool.and_self, if_pos rfl, Int.toNat_natCast]
  rfl
theorem T_partP {rows : List (Int × Int)} (g : TreeG rows) {ws : List (Int × Option Int)} (hw : ws.length = rows.length + 1) {m : Nat} (hm : m ≤ rows.length) : T__part_at (matD (rows.length + 1) (dist rows)) (winsD ws) (tabD (lowL rows ws)) (mkD m) = S.ret (marksD (partL rows ws m)) := by
  have hl := g.len
  unfold T__part_at
  simp only [S.ret_bind, oIx_win (show m < ws.length by omega), S.lift_some, oIx_w1]
  cases e : (wAt ws m).2 with
  | none =>
    have hb : ∀ k, partB rows ws m k = true := fun k => by unfold partB; rw [e]
    simp only [lastD, cIsF_non, S.lift_some, S.ret_bind, if_true, oLen_wins, oTupRg_n (show ws.length ≤ 1000000 by omega)]
    unfold marksD partL
    rw [List.filter_eq_self.mpr fun k _ => hb k]
  | some l =>
    have hb : ∀ k, partB rows ws m k = decide (lowI rows ws k + dist rows k m ≤ l) := fun k => by unfold partB; rw [e]
    have ez := enZ_low (rows := rows) (ws := ws) (d := dist rows m)
    rw [hw] at ez
    have om : oIx (matD (rows.length + 1) (dist rows)) (mkD m) = some (.list (arr (rows.length + 1) (dist rows m))) := oIx_mat (by omega)
    simp only [lastD, cIsF_i, S.lift_some, S.ret_bind, Bool.false_eq_true, if_false, om, ez]
    rw [szD_ok (by rw [List.length_map, List.length_range]; omega), S.lift_some, S.ret_bind, S.mapF_map, S.mapF_ret (g := fun k => if partB rows ws m k = true then some (mkD k) else none)]
    · rw [S.ret_bind, filterMap_if, S.ret_bind, oTuple_l, S.lift_some]
      unfold marksD partL
      rw [hw]
    · intro k hk
      have hk := List.mem_range.mp hk
      rw [hb k, dist_comm g.ok _ k m (Nat.lt_succ_self _) (by omega) hm]
      simp only [un2_t, S.lift_some, S.ret_bind, oAdd_i, cLe_i]
      cases decide (lowI rows ws k + dist rows m k ≤ l) with
      | true => simp only [if_true, S.noEx_ret]
      | false => simp only [Bool.false_eq_true, if_false, S.noEx_ret]
end Pf

set_option maxHeartbeats 1000000
namespace Pf
open PySem PySem.Spec PyProof.Rows L2
/-! ### windows of the laws of serving, serving parts -/
structure WinC (w : Int × Option Int) : Prop where
  lo : 0 ≤ w.1 ∧ w.1 ≤ 100000000
  hi : ∀ l, w.2 = some l → 0 ≤ l ∧ l ≤ 100000000
theorem pick3 {a b c q : Int} {P : Int → Prop} (q0 : 0 ≤ q) (q1 : q < 3) (ha : P a) (hb : P b) (hc : P c) : ∃ x, oIx (.list [.int a, .int b, .int c]) (.int q) = some (.int x) ∧ P x := by
  obtain ⟨y, hy, ey⟩ := oIx_mem (xs := [PyData.int a, .int b, .int c]) q0 q1
  simp only [List.mem_cons, List.not_mem_nil, or_false] at hy
  rcases hy with rfl | rfl | rfl
  · exact ⟨_, ey, ha⟩
  · exact ⟨_, ey, hb⟩
  · exact ⟨_, ey, hc⟩
theorem can_windowsC {rows : List (Int × Int)} (g : TreeG rows) {late : Int} (l0 : 0 ≤ late) (l1 : late ≤ 1000000) : Can 250 (T__law_windows (treeD rows) (.int late)) fun d => ∃ ws : List (Int × Option Int), d = winsD ws ∧ ws.length = rows.length + 1 ∧ ∀ w ∈ ws, WinC w := by
  have hg := g.len
  unfold T__law_windows
  simp only [S.ret_bind, u1, u2, u3, S.bind_assoc, S.lift_some, oAdd_i]
  refine Can.up (n := 201 + (1 + (1 + (3 * 12 + 3)))) ?_ (by omega)
  refine (can_pushesC g (most := 4) (by decide) (by decide) l0 (by omega)).bind fun d ⟨ps, hd, hne, hlen, hok⟩ => ?_
  subst hd
  have fl := falls_lenC (dist rows) ps (rows.length + 1)
  rw [T_fallsC g hne (by omega) hok]
  simp only [S.ret_bind]
  refine (can_drawC (by decide) (by decide)).bind fun d ⟨q, hd, q0, q1⟩ => ?_
  subst hd
  obtain ⟨sl, es, s0, s1⟩ := pick3 (a := 1) (b := 4) (c := late + 1) (P := fun x => 1 ≤ x ∧ x ≤ 1000001) q0 q1 (by decide) (by decide) (by omega)
  simp only [es, S.lift_some, S.ret_bind]
  refine (can_drawC (by decide) (by decide)).bind fun d ⟨way, hd, w0, w1⟩ => ?_
  subst hd
  have sq : seqD (tabD (fallsL (dist rows) ps (rows.length + 1))) = some ((List.range (rows.length + 1)).map fun m => PyData.int (tAt (fallsL (dist rows) ps (rows.length + 1)) m)) := by
    show some ((fallsL (dist rows) ps (rows.length + 1)).map PyData.int) = _
    congr 1
    refine List.ext_getElem? fun i => ?_
    by_cases hi : i < rows.length + 1
    · rw [List.getElem?_map, List.getElem?_map, List.getElem?_range hi, List.getElem?_eq_getElem (by omega)]
      show _ = some (PyData.int (((fallsL (dist rows) ps (rows.length + 1))[i]?).getD 0))
      rw [List.getElem?_eq_getElem (by omega)]
      rfl
    · rw [List.getElem?_eq_none (by rw [List.length_map]; omega), List.getElem?_eq_none (by simpa using hi)]
  simp only [sq, S.lift_some, S.ret_bind]
  refine Can.bind (n := 3 * 12) (P := fun s : List PyData => ∃ ws : List (Int × Option Int), s = ws.map winD ∧ ws.length = rows.length + 1 ∧ ∀ w ∈ ws, WinC w) ?_ fun s ⟨ws, hs, hwl, hw⟩ => ?_
  · refine Can.up (n := 3 * ((List.range (rows.length + 1)).map fun m => PyData.int (tAt (fallsL (dist rows) ps (rows.length + 1)) m)).length) ?_ (by rw [List.length_map, List.length_range]; omega)
    refine (Can.foldM (fun i (s : List PyData) => ∃ ws : List (Int × Option Int), s = ws.map winD ∧ ws.length = i ∧ ∀ w ∈ ws, WinC w) 0 ⟨[], rfl, rfl, fun w hw => nomatch hw⟩ (fun i s x ⟨ws, hs, hwl, hw⟩ hx => ?_)).imp fun s ⟨ws, hs, hwl, hw⟩ => ?_
    · subst hs
      rw [Nat.zero_add] at hwl ⊢
      rw [List.getElem?_map] at hx
      by_cases hi : i < rows.length + 1
      · rw [List.getElem?_range hi] at hx
        cases hx
        have hb := falls_bd g hne hok (m := i) (by omega)
        dsimp only
        generalize tAt (fallsL (dist rows) ps (rows.length + 1)) i = fall at hb ⊢
        refine Can.up (n := 1 + (1 + 1)) ?_ (by omega)
        refine (can_drawC (by omega) (by omega)).bind fun d ⟨r1, hd, r10, r11⟩ => ?_
        subst hd
        simp only [oSub_i, oMax2_i, S.lift_some, S.ret_bind]
        refine (can_drawC (by omega) (by omega)).bind fun d ⟨r2, hd, r20, r21⟩ => ?_
        subst hd
        simp only [oAdd_i, cEq_i, S.lift_some, S.ret_bind]
        have fin : ∀ l : Option Int, (∀ x, l = some x → 0 ≤ x ∧ x ≤ 100000000) → ∃ ws' : List (Int × Option Int), ws.map winD ++ [PyData.tuple [.int (max 0 (fall - r1)), lastD l]] = ws'.map winD ∧ ws'.length = i + 1 ∧ ∀ w ∈ ws', WinC w := fun l hl =>
          ⟨ws ++ [(max 0 (fall - r1), l)], by rw [List.map_append]; rfl, by rw [List.length_append, hwl]; rfl, fun w hw' => by
            rcases List.mem_append.mp hw' with h | h
            · exact hw w h
            · rw [List.mem_singleton.mp h]
              exact ⟨by show 0 ≤ max 0 (fall - r1) ∧ max 0 (fall - r1) ≤ 100000000; omega, hl⟩⟩
        have ap : ∀ d, appD (ws.map winD) d = some (ws.map winD ++ [d]) := fun d => appD_ok (by rw [List.length_map]; omega)
        by_cases hz : way = 0
        · simp only [decide_eq_true hz, bAnd, if_true, S.bind_assoc]
          refine Can.up (n := 1 + 0) ?_ (by decide)
          refine (can_drawC (by decide) (by decide)).bind fun d ⟨r3, hd, r30, r31⟩ => ?_
          subst hd
          simp only [cEq_i, S.lift_some, S.ret_bind]
          split
          · rw [S.ret_bind, ap, S.lift_some]
            exact Can.ret (fin none fun x h => nomatch h)
          · rw [S.ret_bind, ap, S.lift_some]
            exact Can.ret (fin (some (fall + r2)) fun x h => by cases h; omega)
        · simp only [decide_eq_false hz, bAnd, Bool.false_eq_true, if_false, S.ret_bind]
          rw [ap, S.lift_some]
          exact Can.up (Can.ret (fin (some (fall + r2)) fun x h => by cases h; omega)) (by decide)
      · rw [List.getElem?_eq_none (by simpa using hi)] at hx
        cases hx
    · rw [Nat.zero_add, List.length_map, List.length_range] at hwl
      exact ⟨ws, hs, hwl, hw⟩
  · subst hs
    simp only [cEq_i, S.lift_some, S.ret_bind]
    by_cases hz : way = 1
    · simp only [decide_eq_true hz, if_true, S.bind_assoc, oLen_l, List.length_map, S.lift_some, S.ret_bind]
      refine Can.up (n := 1 + (1 + (1 + 0))) ?_ (by decide)
      refine (can_drawC (by omega) (by omega)).bind fun d ⟨at_, hd, a0, a1⟩ => ?_
      subst hd
      refine (can_drawC (by omega) (by omega)).bind fun d ⟨le, hd, le0, le1⟩ => ?_
      subst hd
      refine (can_drawC (by omega) (by omega)).bind fun d ⟨r, hd, r0, r1⟩ => ?_
      subst hd
      obtain ⟨a, rfl⟩ : ∃ b : Nat, at_ = (b : Int) := ⟨at_.toNat, by omega⟩
      rw [oAdd_i, S.lift_some, S.ret_bind, stI_at (by rw [List.length_map]; omega)]
      simp only [S.lift_some, S.ret_bind, oTuple_l]
      refine Can.ret ⟨ws.set a (le, some (le + r)), by unfold winsD; rw [List.map_set]; rfl, by rw [List.length_set, hwl], fun w hw' => ?_⟩
      rcases List.mem_or_eq_of_mem_set hw' with h | h
      · exact hw w h
      · rw [h]
        exact ⟨by show 0 ≤ le ∧ le ≤ 100000000; omega, fun l hl => by cases hl; omega⟩
    · simp only [decide_eq_false hz, Bool.false_eq_true, if_false, S.ret_bind, oTuple_l, S.lift_some]
      exact Can.up (Can.ret ⟨ws, rfl, hwl, hw⟩) (by decide)
theorem T_pairC {rows : List (Int × Int)} (g : TreeG rows) {ws : List (Int × Option Int)} (hw : ws.length = rows.length + 1) :
    T__law_pair (treeD rows) (winsD ws) = S.ret (optD ((findP (dist rows) ws).map pairOD)) := by
  have hl := g.len
  have hsz : ws.length ≤ 1000000000 := by omega
  unfold T__law_pair
  simp only [S.ret_bind, oLen_wins, S.lift_some, rngD_ok hsz, fromTo_map, u3]
  rw [foldF_find' fun i => (List.range ws.length).findSome? fun j => if exclB (dist rows) ws i j = true then some (pairOD (i, j)) else none]
  · rw [S.ret_bind]
    have e : ((List.range ws.length).findSome? fun i => (List.range ws.length).findSome? fun j => if exclB (dist rows) ws i j = true then some (pairOD (i, j)) else none) = (findP (dist rows) ws).map pairOD := by
      unfold findP findPr
      rw [← findSome_map]
      refine findSome_congr fun i _ => ?_
      rw [← findSome_map]
      refine findSome_congr fun j _ => ?_
      cases exclB (dist rows) ws i j <;> rfl
    rw [e]
    cases (findP (dist rows) ws).map pairOD <;> rfl
  · intro i hi
    have hi := List.mem_range.mp hi
    rw [foldF_find' fun j => if exclB (dist rows) ws i j = true then some (pairOD (i, j)) else none]
    · rw [S.ret_bind]
      cases (List.range ws.length).findSome? fun j => if exclB (dist rows) ws i j = true then some (pairOD (i, j)) else none <;> rfl
    · intro j hj
      have hj := List.mem_range.mp hj
      have tg := T_gapC g (a := i) (b := j) (by omega) (by omega)
      simp only [oIx_win (show j < ws.length by omega), oIx_win (show i < ws.length by omega), S.lift_some, S.ret_bind, oIx_w0, oIx_w1]
      unfold exclB
      cases (wAt ws j).2 with
      | none =>
        simp only [lastD, cIsT_non, S.lift_some, S.ret_bind, Bool.false_eq_true, if_false]
        rfl
      | some last =>
        simp only [lastD, cIsT_i, S.lift_some, S.ret_bind, if_true, tg, oAdd_i, cGt_i]
        by_cases hc : last + dist rows i j < (wAt ws i).1
        · simp only [decide_eq_true hc, if_true]
          rfl
        · simp only [decide_eq_false hc, Bool.false_eq_true, if_false]
          rfl
theorem max0_low {rows : List (Int × Int)} (g : TreeG rows) {ws : List (Int × Option Int)} (hw : ws.length = rows.length + 1) (h0 : ∀ w ∈ ws, 0 ≤ w.1) {m : Nat} (hm : m ≤ rows.length) : maxL (0 :: (List.range ws.length).map fun k => (wAt ws k).1 - dist rows k m) = lowI rows ws m := by
  obtain ⟨⟨k, hk, e⟩, h2⟩ := low_spec (rows := rows) hw m
  refine maxL_is ?_ fun x hx => ?_
  · rw [e]
    exact List.mem_cons_of_mem _ (List.mem_map.mpr ⟨k, List.mem_range.mpr hk, rfl⟩)
  · rcases List.mem_cons.mp hx with rfl | hx
    · have := low_self g.ok hw hm
      have := h0 _ (List.mem_of_getElem? (wAt_get (show m < ws.length by omega)))
      omega
    · obtain ⟨j, hj, rfl⟩ := List.mem_map.mp hx
      exact h2 j (List.mem_range.mp hj)
theorem T_earlyC {rows : List (Int × Int)} (g : TreeG rows) {ws : List (Int × Option Int)} (hw : ws.length = rows.length + 1) (h0 : ∀ w ∈ ws, 0 ≤ w.1) : T__law_early (treeD rows) (winsD ws) = S.ret (tabD (lowL rows ws)) := by
  have hl := g.len
  have hsz : ws.length ≤ 1000000000 := by omega
  unfold T__law_early
  simp only [S.ret_bind, oLen_wins, S.lift_some, rngD_ok hsz, fromTo_map, u3]
  refine S.foldM_bind (fun i (s : List PyData) => s = ((List.range i).map (lowI rows ws)).map .int) rfl (fun i s x hs hx => ?_) fun s hs => ?_
  · obtain ⟨hi, rfl⟩ := range_at hx
    subst hs
    refine ⟨((List.range (i + 1)).map (lowI rows ws)).map .int, S.foldM_bind (fun j (s : List PyData) => s = ((0 : Int) :: (List.range j).map fun k => (wAt ws k).1 - dist rows k i).map .int) rfl (fun j s x hs hx => ?_) fun s hs => ?_, rfl⟩
    · obtain ⟨hj, rfl⟩ := range_at hx
      subst hs
      have tg := T_gapC g (a := j) (b := i) (by omega) (by omega)
      simp only [oIx_win hj, S.lift_some, S.ret_bind, oIx_w0, tg, oSub_i]
      rw [appD_ok (by rw [List.length_map, List.length_cons, List.length_map, List.length_range]; omega)]
      simp only [S.lift_some, S.ret_bind]
      refine ⟨_, rfl, ?_⟩
      rw [List.range_succ, List.map_append, ← List.cons_append, List.map_append]
      rfl
    · subst hs
      rw [List.length_map, List.length_range]
      have mx := oBest_max (xs := (0 : Int) :: (List.range ws.length).map fun k => (wAt ws k).1 - dist rows k i) (by intro z; cases z)
      rw [mx, S.lift_some, S.ret_bind, max0_low g hw h0 (by omega), appD_ok (by rw [List.length_map, List.length_map, List.length_range]; omega), S.lift_some, S.ret_bind]
      rw [List.range_succ, List.map_append, List.map_append]
      rfl
  · subst hs
    rw [List.length_map, List.length_range, oTuple_l, S.lift_some]
    rfl
/-! ### serving parts -/
theorem T_partC {rows : List (Int × Int)} (g : TreeG rows) {ws : List (Int × Option Int)} (hw : ws.length = rows.length + 1) (h0 : ∀ w ∈ ws, 0 ≤ w.1) {m : Nat} (hm : m ≤ rows.length) : T__law_part (treeD rows) (winsD ws) (mkD m) = S.ret (marksD (partL rows ws m)) := by
  have hl := g.len
  have hsz : ws.length ≤ 1000000000 := by omega
  unfold T__law_part
  simp only [S.ret_bind, u2, u3, T_earlyC g hw h0, oIx_win (show m < ws.length by omega), S.lift_some, oIx_w1, oLen_wins, rngD_ok hsz, fromTo_map]
  refine S.foldM_bind (fun i (s : List PyData) => s = ((List.range i).filter (partB rows ws m)).map mkD) rfl (fun i s x hs hx => ?_) fun s hs => ?_
  · obtain ⟨hi, rfl⟩ := range_at hx
    subst hs
    have tg := T_gapC g (a := i) (b := m) (by omega) hm
    have ap : appD (((List.range i).filter (partB rows ws m)).map mkD) (mkD i) = some (((List.range i).filter (partB rows ws m)).map mkD ++ [mkD i]) := appD_ok (by
      have := List.length_filter_le (partB rows ws m) (List.range i)
      rw [List.length_range] at this
      rw [List.length_map]
      omega)
    have fin : ∀ b, partB rows ws m i = b → ∃ s', (if b = true then S.ret (((List.range i).filter (partB rows ws m)).map mkD ++ [mkD i]) else S.ret (((List.range i).filter (partB rows ws m)).map mkD)) = S.ret s' ∧ s' = ((List.range (i + 1)).filter (partB rows ws m)).map mkD := fun b hb => by
      rw [List.range_succ, List.filter_append, List.map_append]
      cases b with
      | true => exact ⟨_, if_pos rfl, by rw [List.filter_cons_of_pos hb]; rfl⟩
      | false => exact ⟨_, if_neg Bool.false_ne_true, by rw [List.filter_cons_of_neg (by rw [hb]; exact Bool.false_ne_true), List.filter_nil, List.map_nil, List.append_nil]⟩
    cases e : (wAt ws m).2 with
    | none =>
      have hb : partB rows ws m i = true := by unfold partB; rw [e]
      simp only [lastD, cIsF_non, S.lift_some, S.ret_bind, bOr, if_true, ap]
      exact fin true hb
    | some l =>
      have hb : partB rows ws m i = decide (lowI rows ws i + dist rows i m ≤ l) := by unfold partB; rw [e]
      simp only [lastD, cIsF_i, S.lift_some, S.ret_bind, bOr, Bool.false_eq_true, if_false, lowL_at hi, tg, oAdd_i, cLe_i, ap]
      have := fin _ hb
      split
      · rename_i z
        rwa [if_pos z] at this
      · rename_i z
        rwa [if_neg z] at this
  · subst hs
    rw [List.length_map, List.length_range, oTuple_l, S.lift_some]
    rfl
end Pf

set_option maxHeartbeats 1000000
namespace Pf
open PySem PySem.Spec PyProof.Rows L2
end Pf

set_option maxHeartbeats 1000000
namespace Pf
open PySem PySem.Spec PyProof.Rows L2
end Pf

set_option maxHeartbeats 1000000
namespace Pf
open PySem PySem.Spec PyProof.Rows L2
/-! ### neighbours, needed pushes -/
/-! a list that is empty, or not -/
end Pf

set_option maxHeartbeats 1000000
namespace Pf
open PySem PySem.Spec PyProof.Rows L2
/-! ### kinds, numbers, is_table -/
theorem isi_t (ds : List PyData) : oIsi "tuple" (.tuple ds) = some (.bool true) := by
  unfold oIsi
  have : kitB (tyN (.dat (.tuple ds))) "tuple" = some true := by
    show kitB "tuple" "tuple" = some true
    decide +kernel
  rw [this]
  rfl
theorem tAt_get {ts : List Int} {i : Nat} (h : i < ts.length) : ts[i]? = some (tAt ts i) := by
  unfold tAt
  rw [List.getElem?_eq_getElem h]
  rfl
end Pf

set_option maxHeartbeats 1000000
namespace Pf
open PySem PySem.Spec PyProof.Rows L2
/-! ### the laws' own looks: parts without a common mark, numbers within windows -/
theorem find_all {α : Type} (c : α → Bool) (v : PyData) : ∀ xs : List α, (xs.findSome? fun x => if c x = true then none else some v) = if xs.all c = true then none else some v
  | [] => rfl
  | x :: xs => by
    rw [List.findSome?_cons, List.all_cons]
    by_cases h : c x = true
    · rw [if_pos h, h, Bool.true_and]
      exact find_all c v xs
    · rw [if_neg h, Bool.eq_false_iff.mpr h, Bool.false_and]
      rfl
def flatL (rows : List (Int × Int)) (ws : List (Int × Option Int)) (ms : List Nat) : List Nat := ms.flatMap (partL rows ws)
def intsN (ms : List Nat) : List Int := ms.map fun k => ((k : Nat) : Int)
def apartB (rows : List (Int × Int)) (ws : List (Int × Option Int)) (ms : List Nat) : Bool := decide ((dd (intsN (flatL rows ws ms))).length = (intsN (flatL rows ws ms)).length)
theorem intsN_D (ms : List Nat) : ms.map mkD = (intsN ms).map PyData.int := by
  unfold intsN
  rw [List.map_map]
  rfl
theorem part_len {rows : List (Int × Int)} {ws : List (Int × Option Int)} (m : Nat) : (partL rows ws m).length ≤ ws.length := by
  have := List.length_filter_le (partB rows ws m) (List.range ws.length)
  rwa [List.length_range] at this
theorem flat_len {rows : List (Int × Int)} {ws : List (Int × Option Int)} : ∀ ms : List Nat, (flatL rows ws ms).length ≤ ms.length * ws.length
  | [] => by
    unfold flatL
    simp only [List.flatMap_nil, List.length_nil]
    exact Nat.zero_le _
  | m :: ms => by
    have h1 := flat_len (rows := rows) (ws := ws) ms
    have h2 := part_len (rows := rows) (ws := ws) m
    unfold flatL at h1 ⊢
    rw [List.flatMap_cons, List.length_append, List.length_cons, Nat.succ_mul]
    omega
theorem T_apartC {rows : List (Int × Int)} (g : TreeG rows) {ws : List (Int × Option Int)} (hw : ws.length = rows.length + 1) (h0 : ∀ w ∈ ws, 0 ≤ w.1) {ms : List Nat} (hm : ∀ m ∈ ms, m ≤ rows.length) (hl : ms.length ≤ 100) :
    T__law_apart (treeD rows) (winsD ws) (marksD ms) = S.ret (.bool (apartB rows ws ms)) := by
  have hg := g.len
  have es : seqD (marksD ms) = some (ms.map mkD) := rfl
  have big : ∀ i, i ≤ ms.length → (flatL rows ws (ms.take i)).length ≤ 1200 := fun i hi => by
    have h1 := flat_len (rows := rows) (ws := ws) (ms.take i)
    have h2 : (ms.take i).length ≤ 100 := by rw [List.length_take]; omega
    have h3 : (ms.take i).length * ws.length ≤ 100 * 12 := Nat.mul_le_mul h2 (by omega)
    omega
  unfold T__law_apart
  simp only [S.ret_bind, u3, S.lift_some, S.bind_ret, es]
  refine S.foldM_bind (fun i (s : PyData) => s = .list ((flatL rows ws (ms.take i)).map mkD)) rfl (fun i s x hs hx => ?_) fun s hs => ?_
  · rw [List.getElem?_map] at hx
    obtain ⟨m, hx', rfl⟩ := Option.map_eq_some_iff.mp hx
    clear hx
    have hx := hx'
    have hi : i < ms.length := (List.getElem?_eq_some_iff.mp hx).1
    subst hs
    rw [T_partC g hw h0 (hm m (List.mem_of_getElem? hx)), S.ret_bind]
    have e1 : oList (marksD (partL rows ws m)) = some (.list ((partL rows ws m).map mkD)) := rfl
    have b1 := big i (by omega)
    have b2 := part_len (rows := rows) (ws := ws) m
    have e2 : oAdd (.list ((flatL rows ws (ms.take i)).map mkD)) (.list ((partL rows ws m).map mkD)) = some (.list ((flatL rows ws (ms.take i)).map mkD ++ (partL rows ws m).map mkD)) := if_pos (by rw [List.length_map, List.length_map]; omega)
    rw [e1, S.lift_some, S.ret_bind, e2, S.lift_some]
    refine ⟨_, rfl, ?_⟩
    rw [List.take_succ, hx]
    show _ = PyData.list ((flatL rows ws (ms.take i ++ [m])).map mkD)
    unfold flatL
    rw [List.flatMap_append, List.map_append]
    simp only [List.flatMap_cons, List.flatMap_nil, List.append_nil]
  · rw [List.length_map, List.take_length] at hs
    subst hs
    have b := big ms.length (Nat.le_refl _)
    rw [List.take_length] at b
    have e1 : oLenSet (.list ((flatL rows ws ms).map mkD)) = some (.int ((dd (intsN (flatL rows ws ms))).length : Nat)) := by
      rw [intsN_D, oLenSet_n (by unfold intsN; rw [List.length_map]; omega)]
    have e2 : oLen (.list ((flatL rows ws ms).map mkD)) = some (.int ((intsN (flatL rows ws ms)).length : Nat)) := by
      rw [intsN_D, oLen_l, List.length_map]
    have ce : cEq (.int ((dd (intsN (flatL rows ws ms))).length : Nat)) (.int ((intsN (flatL rows ws ms)).length : Nat)) = some (decide ((((dd (intsN (flatL rows ws ms))).length : Nat) : Int) = (((intsN (flatL rows ws ms)).length : Nat) : Int))) := cEq_i _ _
    rw [e1, e2, S.lift_some, S.ret_bind, S.lift_some, S.ret_bind, ce, asB2_b, S.lift_some]
    unfold apartB
    congr 2
    by_cases h : (dd (intsN (flatL rows ws ms))).length = (intsN (flatL rows ws ms)).length
    · rw [decide_eq_true h, decide_eq_true (by omega)]
    · rw [decide_eq_false h, decide_eq_false (by omega)]
theorem apart_true {rows : List (Int × Int)} {ws : List (Int × Option Int)} {ms : List Nat} (h : (flatL rows ws ms).Nodup) : apartB rows ws ms = true := by
  unfold apartB
  rw [dd_self, decide_eq_true rfl]
  unfold intsN
  exact List.pairwise_map.mpr (h.imp fun {a b} n z => n (by omega))
theorem zip_winsC {ts : List Int} {ws : List (Int × Option Int)} (h : ts.length = ws.length) : ziD (tabD ts) (winsD ws) = some ((List.range ws.length).map fun k => .tuple [.int (tAt ts k), winD (wAt ws k)]) := by
  show some (zipD (ts.map .int) (ws.map winD)) = _
  congr 1
  unfold zipD
  apply List.ext_getElem?
  intro i
  rw [List.getElem?_zipWith]
  by_cases hi : i < ws.length
  · rw [List.getElem?_map, List.getElem?_map, tAt_get (by omega), wAt_get hi, List.getElem?_map, List.getElem?_range hi]
    rfl
  · rw [List.getElem?_map, List.getElem?_eq_none (show ts.length ≤ i by omega), List.getElem?_eq_none (show ((List.range ws.length).map fun k => PyData.tuple [.int (tAt ts k), winD (wAt ws k)]).length ≤ i by rw [List.length_map, List.length_range]; omega)]
    rfl
def withinB (ws : List (Int × Option Int)) (ts : List Int) (k : Nat) : Bool := decide ((wAt ws k).1 ≤ tAt ts k) && match (wAt ws k).2 with
  | none => true
  | some l => decide (tAt ts k ≤ l)
def fitsB (ws : List (Int × Option Int)) (ts : List Int) : Bool := (List.range ws.length).all (withinB ws ts)
theorem T_fitsC {ws : List (Int × Option Int)} {ts : List Int} (hl : ts.length = ws.length) : T__law_fits (winsD ws) (tabD ts) = S.ret (.bool (fitsB ws ts)) := by
  unfold T__law_fits
  simp only [S.ret_bind, zip_winsC hl, S.lift_some]
  rw [foldF_find' fun k => if withinB ws ts k = true then none else some (.bool false)]
  · rw [find_all, S.ret_bind]
    show flR (flO (if fitsB ws ts = true then none else some (.bool false))) _ = _
    cases fitsB ws ts <;> rfl
  · intro k hk
    unfold withinB
    simp only [un2_t, winD, S.lift_some, S.ret_bind, cLt_i]
    by_cases h1 : (wAt ws k).1 ≤ tAt ts k
    · rw [decide_eq_true h1, decide_eq_false (show ¬ tAt ts k < (wAt ws k).1 by omega)]
      cases e : (wAt ws k).2 with
      | none =>
        simp only [lastD, cIsT_non, S.lift_some, S.ret_bind, bOr, bAnd, Bool.false_eq_true, if_false, Bool.and_true, if_true]
        rfl
      | some l =>
        simp only [lastD, cIsT_i, S.lift_some, S.ret_bind, bOr, bAnd, Bool.false_eq_true, if_false, Bool.true_and, if_true, cGt_i]
        by_cases h2 : tAt ts k ≤ l
        · rw [decide_eq_true h2, decide_eq_false (show ¬ l < tAt ts k by omega)]
          rfl
        · rw [decide_eq_false h2, decide_eq_true (show l < tAt ts k by omega)]
          rfl
    · rw [decide_eq_false h1, decide_eq_true (show tAt ts k < (wAt ws k).1 by omega)]
      rfl
end Pf

set_option maxHeartbeats 1000000
namespace Pf
open PySem PySem.Spec PyProof.Rows L2
theorem Fine.str {x : Str} {n : Nat} (h : (reprText x).length ≤ n) : Fine (.str x) n 0 := ⟨by simp only [lfs], by simp only [PyData.hasDict], by simp only [PyData.depth]; exact Nat.le_refl _, by simp only [wt]; exact h⟩
theorem fine_marks {ms : List Nat} (hl : ms.length ≤ 12) (h : ∀ m ∈ ms, m ≤ 1000) : Fine (marksD ms) 600 1 := by
  refine (Fine.tuple (n := 44) (k := 0) fun d hd => ?_).up ?_ (Nat.le_refl _)
  · obtain ⟨m, hm, rfl⟩ := List.mem_map.mp hd
    have := h m hm
    exact fine_int (by omega)
  · rw [List.length_map]
    omega
theorem fine_pairN {rows : List (Int × Int)} (hg : rows.length ≤ 11) {ws : List (Int × Option Int)} (hw : ws.length = rows.length + 1) : Fine (optD ((findP (dist rows) ws).map pairOD)) 100 1 := fine_pairO fun p hp => by
  have := findPr_some hp
  omega
theorem fine_winsC {rows : List (Int × Int)} (hg : rows.length ≤ 11) {ws : List (Int × Option Int)} (hw : ws.length = rows.length + 1) (h : ∀ w ∈ ws, WinC w) : Fine (winsD ws) 2000 2 := fine_wins (by omega) fun w hw' => by
  have := h w hw'
  have h1 := this.lo
  exact ⟨by omega, fun l hl => by have := this.hi l hl; omega⟩
end Pf

namespace Pf
open PySem PySem.Spec PyProof.Rows L2
/-! ### a comprehension over a list that may be written elsewhere, but is not within it -/
section
variable {X : Cx} {E : XK} {e a : Expr} {elt tg : Expr} {pos p : Pos}
def holdsT (μ : Mu) (t : Nat) (ds : List PyData) : Prop := μ[t]? = some (.lst (ds.map Sv.dat))
open Classical in
noncomputable def chkM {α : Type} (t : Nat) (ds : List PyData) (m : M α) : M α := fun μ => if holdsT μ t ds then m μ else none
theorem chk_some {α : Type} {t : Nat} {ds : List PyData} {m : M α} {μ : Mu} {r : Res α} (h : chkM t ds m μ = some r) : holdsT μ t ds ∧ m μ = some r := by
  unfold chkM at h
  split at h
  · rename_i c
    exact ⟨c, h⟩
  · cases h
theorem chk_ok {α : Type} {t : Nat} {ds : List PyData} {m : M α} {μ : Mu} (h : holdsT μ t ds) : chkM t ds m μ = m μ := if_pos h
noncomputable def chkT (t : Nat) (ds : List PyData) (T : Sv → Rho → M Rho) (s : Sv) (ρ : Rho) : M Rho := chkM t ds (T s ρ)
noncomputable def lcR (m : Bool) (vs : List Nat) (i : Nat) (T : Sv → Rho → M Rho) (C : Rho → M Bool) (Fe : Rho → M Sv) (ρ : Rho) : M Sv := fun μ => match ρ[i]? with
  | some (some (.ref t)) => match μ[t]? with
    | some (.lst xs) => match dats xs with
      | some ds => if szOk ds.length = true then ((lcL (chkT t ds T) C Fe ds (wipeR ρ vs)).bind fun ss => chkM t ds (mkl m ss)) μ else none
      | none => none
    | _ => none
  | _ => none
theorem dats_inv : ∀ {xs : List Sv} {ds : List PyData}, dats xs = some ds → xs = ds.map Sv.dat
  | [], ds, h => by
    cases h
    rfl
  | .dat d :: xs, ds, h => by
    have h' : (dats xs).map (d :: ·) = some ds := h
    cases q : dats xs with
    | none =>
      rw [q] at h'
      cases h'
    | some es =>
      rw [q] at h'
      cases h'
      rw [dats_inv q]
      rfl
  | .ref _ :: _, _, h => nomatch h
  | .scr _ :: _, _, h => nomatch h
theorem lcR_ent {K : PySem.W.Frag} {m : Bool} {vs : List Nat} {i : Nat} {T : Sv → Rho → M Rho} {C : Rho → M Bool} {Fe : Rho → M Sv} {σ : L2.St} {H : Hp} {Q : VK} (h : tX K E (lcR m vs i T C Fe) σ H Q) : tLc (iList K (tX K E (slot i))) (tPw K E0 vs T) (tT K E0 C) (tX K E0 Fe) vs σ H Q := by
  obtain ⟨W0, ρ0, μ0, r, h0, e0, q0⟩ := h
  unfold lcR at e0
  split at e0
  · rename_i t ht
    split at e0
    · rename_i xs hxs
      split at e0
      · rename_i ds hds
        split at e0
        · rename_i csz
          have hsz : ds.length < sizeLine := szOk_lt csz
          have hx := dats_inv hds
          subst hx
          have hsl : slot i ρ0 μ0 = some (.ok (.ref t) μ0) := by
            unfold slot
            rw [ht]
            rfl
          refine ⟨W0, ρ0, μ0, .ok (.ref t) μ0, h0, hsl, fun W1 H1 g1 R1 v rv => ?_⟩
          obtain ⟨tl, rfl⟩ := rv
          obtain ⟨vs0, hv0, _⟩ := R1.obj t _ hxs
          refine ⟨W1.η t, rfl, ⟨_, SqL.of hv0⟩, fun D hD => ?_⟩
          have q1 : KoV K E W1 H1 μ0 r Q := q0.later g1
          have s1 : Sls K W1 μ0.length (wipe σ vs) (wipeR ρ0 vs) := wipe_sl (h0.sl.grow g1) vs
          -- the list itself
          have walk : ∀ (W : Wd) (H : Hp) (μ : Mu), Grow W1 H1 μ0 W H μ → Rel K W H μ → holdsT μ t ds → ∃ us, SqL K H (W1.η t) us ∧ us.length = ds.length ∧ ∀ (j : Nat) (d : PyData), ds[j]? = some d → ∃ u, us[j]? = some u ∧ Dq K W.S u d := fun W H μ g R c => by
            obtain ⟨us, hu, ru⟩ := R.obj t _ c
            rw [g.gr.at_ t tl] at hu
            refine ⟨us, SqL.of hu, by rw [ru.len, List.length_map], fun j d hd => ?_⟩
            obtain ⟨u, a1, a2⟩ := ru.get (i := j) (y := .dat d) (by rw [List.getElem?_map, hd]; rfl)
            exact ⟨u, a1, a2⟩
          refine ⟨fun j n H => n = ds.length - j ∧ j ≤ ds.length ∧ ∃ W μ acc us, Rel K W H μ ∧ Grow W1 H1 μ0 W H μ ∧ Loose W μ D ∧ H D = some (.lst us) ∧ SvRs K W μ.length us acc ∧ acc.length ≤ j ∧
              M.bind (lcL (chkT t ds T) C Fe (ds.drop j) (wipeR ρ0 vs)) (fun ss => chkM t ds (mkl m (acc ++ ss))) μ = some r,
            ⟨ds.length, rfl, Nat.zero_le _, W1, μ0, [], [], R1.lay hD, (Grow.refl _ _ _).out hD fun a ha => upd_ne ha, R1.fresh hD, upd_same, .nil, Nat.le_refl _, e0⟩, ?_⟩
          rintro j n H ⟨rfl, hi, W, μ, acc, us, R, gr, hT, hH, ra, hac, e⟩
          by_cases hlt : j < ds.length
          · have hd : ds[j]? = some ds[j] := List.getElem?_eq_getElem hlt
            rw [List.drop_eq_getElem_cons hlt] at e
            have hold : holdsT μ t ds := by
              rcases bind_some e with ⟨ss, μ9, e3, e4⟩ | ⟨c, μ9, e3, rfl⟩
              · obtain ⟨ρ1, μ3, e5, e3⟩ := noEx_bind e3
                exact (chk_some e5).1
              · exact absurd e3 lcL_noex
            obtain ⟨ws, hw, hwl, hwd⟩ := walk W H μ gr R hold
            obtain ⟨u, hu, du⟩ := hwd j _ hd
            refine .inr ⟨⟨ws, u, hw, hu⟩, fun H' => ∃ W μ acc us, Rel K W H' μ ∧ Grow W1 H1 μ0 W H' μ ∧ Loose W μ D ∧ H' D = some (.lst us) ∧ SvRs K W μ.length us acc ∧ acc.length ≤ j + 1 ∧
              M.bind (lcL (chkT t ds T) C Fe (ds.drop (j + 1)) (wipeR ρ0 vs)) (fun ss => chkM t ds (mkl m (acc ++ ss))) μ = some r, fun H' hN => ⟨ds.length - (j + 1), by omega, rfl, hlt, hN⟩, fun x H' hy => ?_⟩
            obtain ⟨rfl, hy⟩ := hy
            have ex := hy ws hw
            rw [hu] at ex
            cases ex
            rcases bind_some e with ⟨ss, μ9, e3, e4⟩ | ⟨c, μ9, e3, rfl⟩
            · obtain ⟨ρ1, μ3, e5, e3⟩ := noEx_bind e3
              have e5 := (chk_some e5).2
              refine ⟨W, wipeR ρ0 vs, μ, .dat ds[j], _, ⟨R, s1.grow gr⟩, du, e5, fun W3 H3 g3 R3 σ3 s3 w3 => ⟨w3.trans (wipe_wipe vs), ?_⟩⟩
              obtain ⟨hH3, hT3⟩ := g3.frm D _ hH (fun _ z => by cases z) hT
              obtain ⟨k, μ4, e6, e3⟩ := noEx_bind e3
              refine ⟨W3, ρ1, μ3, _, ⟨R3, s3⟩, e6, fun W4 H4 g4 R4 => ?_⟩
              obtain ⟨hH4, hT4⟩ := g4.frm D _ hH3 (fun _ z => by cases z) hT3
              have gg4 := (gr.trans g3).trans g4
              cases k with
              | false =>
                rw [if_neg Bool.false_ne_true] at e3 ⊢
                refine ⟨W4, μ4, acc, us, R4, gg4, hT4, hH4, ra.grow (g3.trans g4), Nat.le_succ_of_le hac, ?_⟩
                rw [bind_ok e3]
                exact e4
              | true =>
                rw [if_pos rfl] at e3 ⊢
                obtain ⟨s, μ5, e7, e3⟩ := noEx_bind e3
                refine ⟨W4, ρ1, μ4, _, ⟨R4, s3.grow g4⟩, e7, fun W5 H5 g5 R5 y ry => ?_⟩
                obtain ⟨hH5, hT5⟩ := g5.frm D _ hH4 (fun _ z => by cases z) hT4
                have gg5 := gg4.trans g5
                rcases bind_some e3 with ⟨r5, μ6, e8, e9⟩ | ⟨c, μ6, e8, e9⟩
                · cases e9
                  refine ⟨us, hH5, ?_, ?_⟩
                  · rw [ra.len]
                    omega
                  · refine ⟨W5, μ5, acc ++ [s], us ++ [y], R5.loose hH5 hT5, gg5.out hD fun a ha => upd_ne ha, hT5, upd_same, (ra.grow ((g3.trans g4).trans g5)).append (.cons ry .nil), ?_, ?_⟩
                    · rw [List.length_append]
                      exact Nat.succ_le_succ hac
                    · rw [bind_ok e8, List.append_assoc]
                      exact e4
                · cases e9
            · exact absurd e3 lcL_noex
          · rw [List.drop_eq_nil_of_le (by omega)] at e
            have e' : chkM t ds (mkl m (acc ++ [])) μ = some r := e
            obtain ⟨hold, e'⟩ := chk_some e'
            obtain ⟨ws, hw, hwl, hwd⟩ := walk W H μ gr R hold
            refine .inl ⟨⟨ws, hw, by omega⟩, ?_⟩
            rw [List.append_nil] at e'
            have R0 : Rel K W (hideA H D) μ := R.hide hH hT
            have g0 : Grow W1 H1 μ0 W (hideA H D) μ := gr.out hD fun a ha => hide_ne ha
            have z := mkl_ok R0 hide_self ra e' (q1.later g0)
            rw [hide_upd hH] at z
            exact z
        · cases e0
      · cases e0
    · cases e0
  · cases e0
/-- [elt for tg in name if ..], name a local whose list may be written elsewhere -/
theorem x_lcR (m : Bool) (i : Nat) {iter : Expr} {ifs : List Expr} {scope : Scope} {own : List (Str × Nat)} {T : Sv → Rho → M Rho} {C : Rho → M Bool} {Fe : Rho → M Sv} (hc : X.calm = true) (hN : X.N.Nodup) (hi : PX X E iter (slot i)) (ok : BlkOk X.N X.env.scope scope own)
    (hg : ∀ (s : Shared) (H : Hp) (D : Addr) (cl : List (Str × Addr)) (fp : List Addr), PGW (X.blk s H scope (compEnvC scope cl D X.env) fp) E0 (own.map (·.2)) tg T)
    (ht : ∀ (s : Shared) (H : Hp) (D : Addr) (cl : List (Str × Addr)) (fp : List Addr), PTsX (X.blk s H scope (compEnvC scope cl D X.env) fp) E0 ifs C)
    (he : ∀ (s : Shared) (H : Hp) (D : Addr) (cl : List (Str × Addr)) (fp : List Addr), PX (X.blk s H scope (compEnvC scope cl D X.env) fp) E0 elt Fe) (hs : ∀ x, foldedSetIterable iter X.env x = pure x := by intro _; rfl) :
    PX X E (.ListComp elt [⟨tg, iter, ifs, 0⟩] scope pos) (lcR m (own.map (·.2)) i T C Fe) := pe_weak (pe_lc hc hN (pi_list hi) ok hg ht he hs) fun _ _ _ h => lcR_ent h
end
end Pf

namespace Pf
open PySem PySem.Spec PyProof.Rows L2
section
variable {σ : Type} {l : En} {T : Sv → Rho → M Rho} {u : PyData → S σ} {e' : σ → En} {C : Rho → M Bool} {tC : σ → S Bool} {Fe : Rho → M Sv} {te : σ → S PyData}
theorem lcR_core {vs : List Nat} {i : Nat} {ds : List PyData} {item : PyData → S (Option PyData)} (hi : l[i]? = some (some (.mt ds))) (hw : wipeE l vs = l)
    (h : ∀ rest ρ d k μ, EnvR l k rest ρ μ → ∀ o k', item d k = some (.ok o, k') → ∃ ρ1 μ1 b μ2, T (.dat d) ρ μ = some (.ok ρ1 μ1) ∧ C ρ1 μ1 = some (.ok b μ2) ∧ lcE l Fe k' rest ρ ρ1 μ2 b o) :
    Jd l (lcR false vs i T C Fe) ((S.lift (szD ds)).bind fun _ => (S.mapF (fun d => S.noEx (item d)) ds).bind fun xs => S.ret (.list xs)) (pV l) := fun k rest ρ μ e => by
  obtain ⟨s, h1, t, rfl, h3, h4⟩ := e.at_ i _ hi
  have hold : ∀ k μ, EnvR l k rest ρ μ → holdsT μ t ds := fun k μ e2 => by
    obtain ⟨s, g1, t', rfl, g3, g4⟩ := e2.at_ i _ hi
    rw [h1] at g1
    cases g1
    exact g4
  refine Jl.pre fun _ q => ?_
  have hsz : szOk ds.length = true := by
    unfold szD at q
    split at q
    · assumption
    · cases q
  have er : lcR false vs i T C Fe ρ μ = ((lcL (chkT t ds T) C Fe ds (wipeR ρ vs)).bind fun ss => chkM t ds (mkl false ss)) μ := by
    unfold lcR
    rw [h1]
    dsimp only
    rw [h4]
    dsimp only
    rw [dats_map]
    dsimp only
    rw [if_pos hsz]
  have e2 : EnvR l k rest (wipeR ρ vs) μ := by
    have := e.wipe vs
    rwa [hw] at this
  have run := lc_run (T := chkT t ds T) (C := C) (Fe := Fe) (ρ := wipeR ρ vs) (rest := rest) (item := item) (fun d k μ e o k' q => by
    obtain ⟨ρ1, μ1, b, μ2, w1, w2, w3⟩ := h rest _ d k μ e o k' q
    exact ⟨ρ1, μ1, b, μ2, by unfold chkT; rw [chk_ok (hold k μ (e.unwipe hw))]; exact w1, w2, w3⟩) ds k μ e2
  intro r k' q
  rw [er]
  rcases S.bind_inv q with ⟨xs, k2, q1, q2⟩ | ⟨c, q1, z⟩
  · obtain ⟨xs', μ2, z, w, e3⟩ := run _ _ q1
    cases z
    cases q2
    have e4 := e3.unwipe hw
    refine ⟨.dat (.list xs), μ2, ?_, rfl, e4⟩
    rw [bind_ok w]
    show chkM t ds (mkl false (xs.map Sv.dat)) μ2 = _
    rw [chk_ok (hold _ _ e4)]
    exact mkl_dat xs μ2
  · obtain ⟨xs', μ2, z, w, e3⟩ := run _ _ q1
    cases z
theorem e_lcR (vs : List Nat) (i : Nat) {ds : List PyData} (hi : l[i]? = some (some (.mt ds))) (hw : wipeE l vs = l) (hT : ∀ d, Jd l (T (.dat d)) (u d) (pTc l e')) (he : ∀ s, Jd (e' s) Fe (te s) (pV (e' s))) :
    Jd l (lcR false vs i T yes Fe) ((S.lift (szD ds)).bind fun _ => (S.mapM (fun d => S.noEx ((u d).bind te)) ds).bind fun xs => S.ret (.list xs)) (pV l) := by
  have := lcR_core (T := T) (C := yes) (Fe := Fe) hi hw (fun rest ρ d k μ e => lc_item hT (fun s => yes_j) he d k μ e)
  refine (congrArg (fun t => Jd l (lcR false vs i T yes Fe) t (pV l)) ?_).mp this
  congr 1
  funext _
  congr 1
  rw [← mapF_some]
  congr 1
  funext d
  rw [S.bind_assoc]
  rfl
end
end Pf

set_option maxHeartbeats 1000000
namespace Pf
open PySem PySem.Spec PyProof.Rows L2
/-! ### sorted(pairs of ints, reverse=True) -/
def encP (p : Int × Int) : PyData := .tuple [.int p.1, .int p.2]
noncomputable def sortR (ps : List (Int × Int)) : List (Int × Int) := ps.mergeSort (PySem.W.dataLe true encP)
def asPairs : List PyData → Option (List (Int × Int))
  | [] => some []
  | .tuple [.int i, .int j] :: r => (asPairs r).map ((i, j) :: ·)
  | _ :: _ => none
theorem asPairs_eq : ∀ {ds : List PyData} {ps : List (Int × Int)}, asPairs ds = some ps → ds = ps.map encP
  | [], ps, e => by
    cases e
    rfl
  | d :: r, ps, e => by
    unfold asPairs at e
    split at e
    · rename_i q
      cases q
    · rename_i i j r' q
      cases q
      cases er : asPairs r with
      | none =>
        rw [er] at e
        cases e
      | some qs =>
        rw [er] at e
        cases e
        rw [asPairs_eq er]
        rfl
    · cases e
noncomputable def sortRM (ds : List PyData) : M Sv := match asPairs ds with
  | some ps => if ps.length ≤ 1000 then M.ret (.dat (.list ((sortR ps).map encP))) else M.fail
  | none => M.fail
noncomputable def bSortR (ss : List Sv) : M Sv := match ss with
  | [s, t] => match t with
    | .dat (.bool true) => match s with
      | .dat (.list ds) => sortRM ds
      | _ => M.fail
    | _ => M.fail
  | _ => M.fail
def PairR (K : PySem.W.Frag) (S : Hp) (u : Value) (p : Int × Int) : Prop := ∃ x : V, RelV x u ∧ Dq K S x (encP p)
theorem each_pairs {K : PySem.W.Frag} {S : Hp} : ∀ {vs : List V} {us : List Value} {ps : List (Int × Int)}, Vals vs us → Dqs K S vs (ps.map encP) → PySem.W.EachIs (PairR K S) us ps
  | _, _, [], rv, rd => by
    cases rd
    cases rv
    exact .nil
  | _, _, p :: ps, rv, rd => by
    cases rd with
    | cons h r =>
      cases rv with
      | cons r1 rr => exact .cons ⟨_, r1, h⟩ (each_pairs rr r)
theorem pairs_each {K : PySem.W.Frag} {S : Hp} : ∀ {us : List Value} {ps : List (Int × Int)}, PySem.W.EachIs (PairR K S) us ps → ∃ vs : List V, Vals vs us ∧ Dqs K S vs (ps.map encP)
  | _, _, .nil => ⟨[], .nil, .nil⟩
  | _, _, .cons ⟨x, h1, h2⟩ r => by
    obtain ⟨vs, r1, r2⟩ := pairs_each r
    exact ⟨x :: vs, .cons h1 r1, .cons h2 r2⟩
theorem each_imp {α β : Type} {R Q : α → β → Prop} (h : ∀ a b, R a b → Q a b) : ∀ {as : List α} {bs : List β}, PySem.W.EachIs R as bs → PySem.W.EachIs Q as bs
  | _, _, .nil => .nil
  | _, _, .cons r rr => .cons (h _ _ r) (each_imp h rr)
section
variable {X : Cx} {E : XK} {a d : Expr} {Fa : Rho → M Sv} {x : Str} {p pos kpos : Pos}
theorem x_sortR (hu : X.A.units + 64 < cLine) (ha : PX X E a Fa) (hd : PX X E d (con (.bool true))) (hm : X.mg x = none) (hv : bootBuiltins x = some (.builtin "sorted")) (hc : X.calm = true := by rfl) (hg : Gl X x := by rfl) (hn : x ≠ "__name__" := by decide) (hdb : (x == ("__debug__" : Str)) = false := by decide)
    (he0 : starEach [a] X.env = (false, eval a X.env) :: starEach [] X.env := by rfl)
    (he : backTo pos (starEach [a] X.env) = (false, eval a X.env) :: backTo pos (starEach [] X.env) := by rfl) (hplain : (backTo pos (starEach [a] X.env)).any (·.1) = false := by rfl)
    (hall : (backToKw pos (keywordEach [⟨some "reverse", d, kpos⟩] X.env)).all (·.1.isSome) = true := by rfl) (hkw : (backToKw pos (keywordEach [⟨some "reverse", d, kpos⟩] X.env)).any (·.1.isNone) = false := by rfl) (hks : (backToKw pos (keywordEach [⟨some "reverse", d, kpos⟩] X.env)).filterMap (·.1) = [Str.ofString "reverse"] := by rfl) :
    PX X E (.Call (.Name x p) [a] [⟨some "reverse", d, kpos⟩] pos) (callKw bSortR (argC Fa argN) (argC (con (.bool true)) argN)) := by
  constructor
  intro pins s σ H Q I ⟨W, ρ, μ, r, h, e0, q⟩
  have want : tAr X.K E (argC Fa argN) σ H fun vs H1 => tAr X.K E (argC (con (.bool true)) argN) σ H1 fun zs H2 => zs = [V.bl true] ∧ ∃ W2 μ2 s2 r2, Rel X.K W2 H2 μ2 ∧ SvRs X.K W2 μ2.length vs [s2] ∧ bSortR [s2, .dat (.bool true)] μ2 = some r2 ∧ KoV X.K E W2 H2 μ2 r2 Q := tAr_bind h e0 q fun vs ss W1 H1 μ1 g1 h1 rs e1 q1 => by
    have e2 : bSortR (ss ++ [.dat (.bool true)]) μ1 = some r := e1
    refine ⟨W1, ρ, μ1, .ok [.dat (.bool true)] μ1, h1, rfl, fun W2 H2 g2 R2 zs rz => ?_⟩
    cases rz with
    | cons z rz =>
      cases rz
      cases z
      have one : ∃ s2, ss = [s2] := match ss, e2 with
        | [s2], _ => ⟨s2, rfl⟩
        | [], e2 => nomatch (show (none : Option (Res Sv)) = some r from e2)
        | a :: b :: [], e2 => nomatch (show (none : Option (Res Sv)) = some r from e2)
        | a :: b :: c :: l, e2 => nomatch (show (none : Option (Res Sv)) = some r from e2)
      obtain ⟨s2, rfl⟩ := one
      exact ⟨rfl, W2, μ1, s2, r, R2, rs.grow g2, e2, Ko.later g2 q1⟩
  have pa : PAX X E [a] (argC Fa argN) := a_cons ha a_nil he0
  have pk : PKX X E [⟨some "reverse", d, kpos⟩] (argC (con (.bool true)) argN) := k_cons hd k_nil
  refine wpAny_Call_Name_kw (ld_blt I hg hm hv ?_ hn hdb)
  refine callWith_kw (thn (pa.run pos pins s σ H _ I want) fun us s1 ⟨vs, H1, I1, r1, q1⟩ => thn (pk.run pos pins s1 σ H1 _ I1 q1) fun ws s2 ⟨zs, H2, I2, rz, ez, W2, μ2, sv, r2, R2, rs2, e2, q2⟩ => ?_) he hplain hall hkw
  rw [hks]
  subst ez
  cases rz with
  | cons z rz =>
    cases rz
    cases z
    obtain ⟨v, rfl, h2⟩ := rels1 rs2
    cases r1 with
    | cons rv r1 =>
      cases r1
      have pick : ∃ ds, sv = .dat (.list ds) := match sv, e2 with
        | .dat (.list ds), _ => ⟨ds, rfl⟩
        | .dat .none, e2 => nomatch (show (none : Option (Res Sv)) = some r2 from e2)
        | .dat (.bool _), e2 => nomatch (show (none : Option (Res Sv)) = some r2 from e2)
        | .dat (.int _), e2 => nomatch (show (none : Option (Res Sv)) = some r2 from e2)
        | .dat (.str _), e2 => nomatch (show (none : Option (Res Sv)) = some r2 from e2)
        | .dat (.tuple _), e2 => nomatch (show (none : Option (Res Sv)) = some r2 from e2)
        | .dat (.dict _), e2 => nomatch (show (none : Option (Res Sv)) = some r2 from e2)
        | .ref _, e2 => nomatch (show (none : Option (Res Sv)) = some r2 from e2)
        | .scr _, e2 => nomatch (show (none : Option (Res Sv)) = some r2 from e2)
      obtain ⟨ds, rfl⟩ := pick
      have e2 : sortRM ds μ2 = some r2 := e2
      unfold sortRM at e2
      cases eps : asPairs ds with
      | none =>
        rw [eps] at e2
        cases e2
      | some ps =>
        rw [eps] at e2
        dsimp only at e2
        by_cases c : ps.length ≤ 1000
        · rw [if_pos c] at e2
          cases e2
          have z := asPairs_eq eps
          subst z
          have h3 : Dq X.K W2.S v (.list (ps.map encP)) := h2
          cases h3 with
          | lst hl rq =>
            cases rv
            obtain ⟨its, rits, hti, _⟩ := I2.list (SqL.of (R2.sub _ _ hl))
            have ep := each_pairs rits rq
            have un : ∀ b : Int × Int, (encP b).depth = 1 := fun b => by simp [encP, PyData.depth, PyData.depthAll]
            have er : PySem.W.EachIs (fun v b => ∃ as, Reads s2.heap v (encP b) as) its ps := each_imp (fun u b h => by
              obtain ⟨xv, y1, y2⟩ := h
              obtain ⟨as, rr, _⟩ := Dq.reads I2 (Dq.mono R2.sub y2) y1
              exact ⟨as, rr⟩) ep
            have al : PySem.W.AllAlike (ps.map encP) := PySem.W.AllAlike.of fun b b' => by
              unfold encP
              simp only [PySem.W.alike, PySem.W.alikeAll, Bool.and_self]
            have so : PySem.W.Sortable (ps.map encP) := .inl fun z hz => by
              obtain ⟨b, _, rfl⟩ := List.mem_map.mp hz
              exact ⟨_, _, rfl⟩
            refine PySem.W.sorted_rev_data (b := true) (enc := encP) (R := PairR X.K W2.S) hti.isList ep er al so (Nat.le_trans c (by decide)) (fun b _ => by rw [un]; omega) fun out lo eo => ?_
            · obtain ⟨vs2, rv2, rd2⟩ := pairs_each eo
              obtain ⟨e0, hat⟩ := sortedAll_at s2.heap its out.toArray
              have np : H2 (s2.heap.objs.size + 1) = none := I2.hok.fresh (Nat.le_succ _)
              obtain ⟨W3, g3, R3, d3⟩ := lst_new R2 np rd2
              have l2 : vs2.length ≤ sizeLine := by
                rw [rv2.length, lo]
                exact Nat.le_trans c (by decide)
              have I3 := I2.turnedNew (t' := s2.toks) (ch := []) (T := s2.heap.objs.size + 1) (ob := .lst vs2) (fun b o _ q => sortedAll_old q) (fun b hb => nomatch hb) (Nat.le_succ _) ⟨l2, out, e0, rv2, hat⟩
              exact ⟨.ref (s2.heap.objs.size + 1), _, I3, rfl, q2 _ _ g3 R3 _ d3⟩
        · rw [if_neg c] at e2
          cases e2
end
end Pf

set_option maxHeartbeats 1000000
namespace Pf
open PySem PySem.Spec PyProof.Rows L2
noncomputable def oSortR : PyData → Option PyData
  | .list ds => match asPairs ds with
    | some ps => if ps.length ≤ 1000 then some (.list ((sortR ps).map encP)) else none
    | none => none
  | _ => none
section
variable {l l1 : En} {Fa : Rho → M Sv} {ta : S PyData}
theorem e_sortR (h : Jd l Fa ta (pV l1)) : Jd l (callKw bSortR (argC Fa argN) (argC (con (.bool true)) argN)) (ta.bind fun a => S.lift (oSortR a)) (pV l1) := fun k rest ρ μ e => by
  refine Jl.eqM (m := (Fa ρ).bind fun a => bSortR [a, .dat (.bool true)]) ((h k rest ρ μ e).bind fun k1 μ1 a da ⟨z, e1⟩ => ?_) ?_
  · subst z
    refine Jl.lift fun d q => ?_
    cases da with
    | list ds =>
      have q : (match asPairs ds with | some ps => if ps.length ≤ 1000 then some (PyData.list ((sortR ps).map encP)) else none | none => none) = some d := q
      show ∃ a μ', sortRM ds μ1 = some (.ok a μ') ∧ _
      unfold sortRM
      cases eps : asPairs ds with
      | none =>
        rw [eps] at q
        cases q
      | some ps =>
        rw [eps] at q
        dsimp only at q ⊢
        by_cases c : ps.length ≤ 1000
        · rw [if_pos c] at q ⊢
          cases q
          exact ⟨_, μ1, rfl, rfl, e1⟩
        · rw [if_neg c] at q
          cases q
    | _ => cases q
  · unfold callKw argC argN
    rw [M.assoc]
    congr 1
end
end Pf

set_option maxHeartbeats 1000000
namespace Pf
open PySem PySem.Spec PyProof.Rows L2
noncomputable def T__meet_parts (a0 : PyData) : S PyData :=
  (((((S.ret a0).bind fun x1 => S.lift ((seqD x1).map enuD)).bind fun ds9 => (S.lift (szD ds9)).bind fun _ => (S.mapM (fun d2 => S.noEx (((S.lift (un2 d2)).bind fun p3 => (S.ret p3.1).bind fun s4 => (S.ret p3.2).bind fun s6 => S.ret (s4, s6)).bind fun s8 => ((((S.ret s8.2).bind fun x11 => (S.ret (PyData.int 0)).bind fun x12 => S.lift (oIx x11 x12)).bind fun x15 => ((S.ret s8.1).bind fun x13 => (S.ret []).bind fun as14 => S.ret (x13 :: as14)).bind fun as16 => S.ret (x15 :: as16)).bind fun as17 => S.ret (PyData.tuple as17)))) ds9).bind fun xs10 => S.ret (PyData.list xs10)).bind fun x18 => S.lift (oSortR x18)).bind fun v19 =>
  ((S.ret []).bind fun v20 =>
  ((S.ret []).bind fun v21 =>
  ((((S.ret v19).bind fun x22 => S.lift (seqD x22)).bind fun ds31 => S.foldM (fun (s23 : List PyData × List PyData) d24 => ((S.lift (un2 d24)).bind fun p26 => (S.ret p26.1).bind fun s27 => (S.ret p26.2).bind fun s29 => S.ret (s27, s29)).bind fun t25 => (((((((S.lift (szD s23.1)).bind fun _ => (S.mapM (fun d32 => S.noEx ((S.ret d32).bind fun s33 => ((S.ret s33).bind fun x38 => ((S.ret a0).bind fun x36 => (S.ret t25.2).bind fun x37 => S.lift (oIx x36 x37)).bind fun x39 => S.lift (asB2 (cIn x38 x39))))) s23.1).bind fun xs35 => S.ret (PyData.list xs35)).bind fun x40 => S.lift (oAny x40)).bind fun x41 => S.lift (toB x41)).bind fun z42 => S.ret (!z42)).bind fun z48 => if z48 = true then (((S.ret t25.1).bind fun x43 => S.lift (appD s23.1 x43)).bind fun v44 =>
  (((S.ret t25.2).bind fun x45 => S.lift (appD s23.2 x45)).bind fun s47 => S.ret (v44, s47))) else (S.ret (s23.1, s23.2))).bind fun s50 => S.ret (s50.1, s50.2))) ds31 (v20, v21)).bind fun v51 =>
  (((S.ret (PyData.list v51.1)).bind fun x54 => ((S.ret (PyData.list v51.2)).bind fun x52 => (S.ret []).bind fun as53 => S.ret (x52 :: as53)).bind fun as55 => S.ret (x54 :: as55)).bind fun as56 => S.ret (PyData.tuple as56))))))
noncomputable abbrev F__meet_parts : List Sv → M Sv := liftF (u1 T__meet_parts)
noncomputable def G__meet_parts : Rho → M Out :=
  (gSeq (gSet 1 (callKw bSortR (argC (lcV false [5, 6] (enuA (slot 0)) (gTp 2 (gsCons (gNm 5) (gsCons (gNm 6) gsNil))) yes (tupV (argC (bin pIx (slot 6) (con (.int 0))) (argC (slot 5) argN)))) argN) (argC (con (.bool true)) argN)))
  (gSeq (gSet 2 (lstV true argN))
  (gSeq (gSet 3 (lstV true argN))
  (gSeq (gFor (seqV (slot 1)) (gTp 2 (gsCons (gNm 4) (gsCons (gNm 5) gsNil)))
  (gIf (notT (tst (callV bAny (argC (lcR false [7] 2 (gNm 7) yes (bin pIn (slot 7) (bin pIx (slot 0) (slot 5)))) argN))))
  (gSeq (gExpr (appV (slot 2) (slot 4)))
  (gExpr (appV (slot 3) (slot 5))))
  gSkip))
  (gRet (tupV (argC (frzV (slot 2)) (argC (frzV (slot 3)) argN))))))))
theorem tt__meet_parts (a0 : PyData) : Jd [some (.im a0), none, none, none, none, none, none, none] G__meet_parts (T__meet_parts a0) pR := by
  unfold T__meet_parts G__meet_parts
  exact (r_seq (s_setI 1 (e_sortR (e_lc (u := fun d2 => ((S.lift (un2 d2)).bind fun p3 => (S.ret p3.1).bind fun s4 => (S.ret p3.2).bind fun s6 => S.ret (s4, s6))) (e' := fun (s : ((PyData) × (PyData))) => [some (.im a0), none, none, none, none, some (.im s.1), some (.im s.2), none]) [5, 6] (w_enA (e_slot 0 rfl)) rfl (fun d2 => (tc_tp2 (e1 := fun (s4 : PyData) => [some (.im a0), none, none, none, none, some (.im s4), none, none]) (e2 := fun (s4 : PyData) (s6 : PyData) => [some (.im a0), none, none, none, none, some (.im s4), some (.im s6), none]) (u1 := fun d5 => (S.ret d5)) (u2 := fun d7 => (S.ret d7)) d2 (fun d5 => (tc_nm 5 d5 rfl)) (fun s4 d7 => (tc_nm 6 d7 rfl)))) (fun s8 => (e_tup (a_cons' (e_bin op_ix' (e_slot 6 rfl) (e_w (e_con (PyData.int 0)))) (a_cons' (e_slot 5 rfl) a_nil'))))))) fun v19 =>
  (r_seq (s_setM 2 (m_lst a_nil')) fun v20 =>
  (r_seq (s_setM 3 (m_lst a_nil')) fun v21 =>
  (r_seq (s_for' (h := fun (s : List PyData × List PyData) => [some (.im a0), some (.im v19), some (.mt s.1), some (.mt s.2), none, none, none, none]) (v20, v21) (w_seq (e_slot 1 rfl)) (.keep (.keep (.keep (.keep (.drop (.drop (.drop (.drop .nil)))))))) (fun s23 d24 => b_tg (u := fun d24 => ((S.lift (un2 d24)).bind fun p26 => (S.ret p26.1).bind fun s27 => (S.ret p26.2).bind fun s29 => S.ret (s27, s29))) (e' := fun (t : ((PyData) × (PyData))) => [some (.im a0), some (.im v19), some (.mt s23.1), some (.mt s23.2), some (.im t.1), some (.im t.2), none, none]) d24 (tg_tp2 (e1 := fun (s27 : PyData) => [some (.im a0), some (.im v19), some (.mt s23.1), some (.mt s23.2), some (.im s27), none, none, none]) (e2 := fun (s27 : PyData) (s29 : PyData) => [some (.im a0), some (.im v19), some (.mt s23.1), some (.mt s23.2), some (.im s27), some (.im s29), none, none]) (u1 := fun d28 => (S.ret d28)) (u2 := fun d30 => (S.ret d30)) d24 (fun d28 => (tg_nm 4 d28)) (fun s27 d30 => (tg_nm 5 d30))) fun t25 => ((n_end (fun (s50 : List PyData × List PyData) => (s50.1, s50.2)) (q_if (P := pN fun (s : List PyData × List PyData) => [some (.im a0), some (.im v19), some (.mt s.1), some (.mt s.2), some (.im t25.1), some (.im t25.2), none, none]) (u_not (u_val (e_bl1 bl_any (e_w (e_lcR (u := fun d32 => (S.ret d32)) (e' := fun (s : PyData) => [some (.im a0), some (.im v19), some (.mt s23.1), some (.mt s23.2), some (.im t25.1), some (.im t25.2), none, some (.im s)]) [7] 2 rfl rfl (fun d32 => (tc_nm 7 d32 rfl)) (fun s33 => (e_binB op_in' (e_slot 7 rfl) (e_w (e_bin op_ix' (e_slot 0 rfl) (e_w (e_slot 5 rfl))))))))))) ((r_seq (s_app 2 rfl (e_slot 4 rfl) rfl) fun v44 =>
  ((n_end (fun (s47 : List PyData) => (v44, s47)) (s_app 3 rfl (e_slot 5 rfl) rfl) fun s47 => (.keep (.keep (.keep (.keep (.keep (.keep (.drop (.drop .nil)))))))))))) (n_skip (s23.1, s23.2) (.keep (.keep (.keep (.keep (.keep (.keep (.drop (.drop .nil)))))))))) fun s50 => (.keep (.keep (.keep (.keep (.drop (.drop (.drop (.drop .nil)))))))))))) fun v51 =>
  (r_ret (e_tup (a_cons' (e_frz 2 rfl) (a_cons' (e_frz 3 rfl) a_nil'))))))))
theorem same__meet_parts (ss : List Sv) (μ : Mu) (r : Res Sv) (hs : ss.length = 1) (wf : Wf μ) (e : F__meet_parts ss μ = some r) : ∃ r', G__meet_parts (ini 8 ss) μ = some r' ∧ Agree μ.length r r' :=
  same_T (n := 1) (fun ds h => by
    obtain ⟨a0, rfl⟩ := len1 h
    exact r_e (tt__meet_parts a0)) ss μ r hs wf e
noncomputable def T__fewest_at (a0 a1 a2 : PyData) : S PyData :=
  (((((S.ret a1).bind fun x1 => S.lift (oLen x1)).bind fun x2 => S.lift (rngD x2)).bind fun ds5 => (S.lift (szD ds5)).bind fun _ => (S.mapM (fun d3 => S.noEx ((S.ret d3).bind fun s4 => (((S.ret a0).bind fun x13 => ((S.ret a1).bind fun x11 => ((S.ret a2).bind fun x9 => ((S.ret s4).bind fun x7 => (S.ret []).bind fun as8 => S.ret (x7 :: as8)).bind fun as10 => S.ret (x9 :: as10)).bind fun as12 => S.ret (x11 :: as12)).bind fun as14 => S.ret (x13 :: as14)).bind (u4 T__part_at)))) ds5).bind fun xs6 => S.ret (PyData.list xs6)).bind fun v15 =>
  (((((S.ret v15).bind fun x16 => (S.ret []).bind fun as17 => S.ret (x16 :: as17)).bind (u1 T__meet_parts)).bind fun d18 => ((S.lift (un2 d18)).bind fun p19 => (S.ret p19.1).bind fun s20 => (S.ret p19.2).bind fun s22 => S.ret (s20, s22))).bind fun v24 =>
  (((((((S.ret v24.1).bind fun x25 => S.lift (oSort x25)).bind fun x26 => S.lift (seqD x26)).bind fun ds29 => (S.lift (szD ds29)).bind fun _ => (S.mapM (fun d27 => S.noEx ((S.ret d27).bind fun s28 => (((S.ret s28).bind fun x35 => (((S.ret a2).bind fun x31 => (S.ret s28).bind fun x32 => S.lift (oIx x31 x32)).bind fun x33 => (S.ret []).bind fun as34 => S.ret (x33 :: as34)).bind fun as36 => S.ret (x35 :: as36)).bind fun as37 => S.ret (PyData.tuple as37)))) ds29).bind fun xs30 => S.ret (PyData.list xs30)).bind fun x38 => S.lift (oTuple x38)).bind fun x43 => ((((S.ret v24.2).bind fun x39 => S.lift (oSort x39)).bind fun x40 => S.lift (oTuple x40)).bind fun x41 => (S.ret []).bind fun as42 => S.ret (x41 :: as42)).bind fun as44 => S.ret (x43 :: as44)).bind fun as45 => S.ret (PyData.tuple as45))))
noncomputable abbrev F__fewest_at : List Sv → M Sv := liftF (u3 T__fewest_at)
noncomputable def G__fewest_at : Rho → M Out :=
  (gSeq (gSet 3 (lcV false [6] (rngV (callV bLen (argC (slot 1) argN))) (gNm 6) yes (callF F__part_at 4 (argC (slot 0) (argC (slot 1) (argC (slot 2) (argC (slot 6) argN)))))))
  (gSeq (gAsg (callF F__meet_parts 1 (argC (slot 3) argN)) (gTp 2 (gsCons (gNm 4) (gsCons (gNm 5) gsNil))))
  (gRet (tupV (argC (callV bTuple (argC (lcV false [7] (seqV (callV bSort (argC (slot 4) argN))) (gNm 7) yes (tupV (argC (slot 7) (argC (bin pIx (slot 2) (slot 7)) argN)))) argN)) (argC (callV bTuple (argC (callV bSort (argC (slot 5) argN)) argN)) argN))))))
theorem tt__fewest_at (a0 a1 a2 : PyData) : Jd [some (.im a0), some (.im a1), some (.im a2), none, none, none, none, none] G__fewest_at (T__fewest_at a0 a1 a2) pR := by
  unfold T__fewest_at G__fewest_at
  exact (r_seq (s_setI 3 (e_lc (u := fun d3 => (S.ret d3)) (e' := fun (s : PyData) => [some (.im a0), some (.im a1), some (.im a2), none, none, none, some (.im s), none]) [6] (w_rng (e_bl1 bl_len (e_w (e_slot 1 rfl)))) rfl (fun d3 => (tc_nm 6 d3 rfl)) (fun s4 => (e_call (a_cons' (e_slot 0 rfl) (a_cons' (e_slot 1 rfl) (a_cons' (e_slot 2 rfl) (a_cons' (e_slot 6 rfl) a_nil')))))))) fun v15 =>
  (r_seq (s_asg' (u := fun d18 => ((S.lift (un2 d18)).bind fun p19 => (S.ret p19.1).bind fun s20 => (S.ret p19.2).bind fun s22 => S.ret (s20, s22))) (e' := fun (s : ((PyData) × (PyData))) => [some (.im a0), some (.im a1), some (.im a2), some (.im v15), some (.im s.1), some (.im s.2), none, none]) (e_call (a_cons' (e_slot 3 rfl) a_nil')) fun d18 => (tg_tp2 (e1 := fun (s20 : PyData) => [some (.im a0), some (.im a1), some (.im a2), some (.im v15), some (.im s20), none, none, none]) (e2 := fun (s20 : PyData) (s22 : PyData) => [some (.im a0), some (.im a1), some (.im a2), some (.im v15), some (.im s20), some (.im s22), none, none]) (u1 := fun d21 => (S.ret d21)) (u2 := fun d23 => (S.ret d23)) d18 (fun d21 => (tg_nm 4 d21)) (fun s20 d23 => (tg_nm 5 d23)))) fun v24 =>
  (r_ret (e_tup (a_cons' (e_bl1 bl_tuple (e_w (e_lc (u := fun d27 => (S.ret d27)) (e' := fun (s : PyData) => [some (.im a0), some (.im a1), some (.im a2), some (.im v15), some (.im v24.1), some (.im v24.2), none, some (.im s)]) [7] (w_seq (e_bl1 bl_sort (e_w (e_slot 4 rfl)))) rfl (fun d27 => (tc_nm 7 d27 rfl)) (fun s28 => (e_tup (a_cons' (e_slot 7 rfl) (a_cons' (e_bin op_ix' (e_slot 2 rfl) (e_w (e_slot 7 rfl))) a_nil'))))))) (a_cons' (e_bl1 bl_tuple (e_w (e_bl1 bl_sort (e_w (e_slot 5 rfl))))) a_nil'))))))
theorem same__fewest_at (ss : List Sv) (μ : Mu) (r : Res Sv) (hs : ss.length = 3) (wf : Wf μ) (e : F__fewest_at ss μ = some r) : ∃ r', G__fewest_at (ini 8 ss) μ = some r' ∧ Agree μ.length r r' :=
  same_T (n := 3) (fun ds h => by
    obtain ⟨a0, a1, a2, rfl⟩ := len3 h
    exact r_e (tt__fewest_at a0 a1 a2)) ss μ r hs wf e
noncomputable def T_fewest_pushes (a0 a1 : PyData) : S PyData :=
  ((((S.ret a0).bind fun x1 => (S.ret []).bind fun as2 => S.ret (x1 :: as2)).bind (u1 T_distances_of)).bind fun v3 =>
  (((S.ret v3).bind fun x12 => ((S.ret a1).bind fun x10 => ((((S.ret v3).bind fun x6 => ((S.ret a1).bind fun x4 => (S.ret []).bind fun as5 => S.ret (x4 :: as5)).bind fun as7 => S.ret (x6 :: as7)).bind (u2 T_earliest_at)).bind fun x8 => (S.ret []).bind fun as9 => S.ret (x8 :: as9)).bind fun as11 => S.ret (x10 :: as11)).bind fun as13 => S.ret (x12 :: as13)).bind (u3 T__fewest_at)))
noncomputable abbrev F_fewest_pushes : List Sv → M Sv := liftF (u2 T_fewest_pushes)
noncomputable def G_fewest_pushes : Rho → M Out :=
  (gSeq (gSet 2 (callF F_distances_of 1 (argC (slot 0) argN)))
  (gRet (callF F__fewest_at 3 (argC (slot 2) (argC (slot 1) (argC (callF F_earliest_at 2 (argC (slot 2) (argC (slot 1) argN))) argN))))))
theorem tt_fewest_pushes (a0 a1 : PyData) : Jd [some (.im a0), some (.im a1), none] G_fewest_pushes (T_fewest_pushes a0 a1) pR := by
  unfold T_fewest_pushes G_fewest_pushes
  exact (r_seq (s_setI 2 (e_call (a_cons' (e_slot 0 rfl) a_nil'))) fun v3 =>
  (r_ret (e_call (a_cons' (e_slot 2 rfl) (a_cons' (e_slot 1 rfl) (a_cons' (e_call (a_cons' (e_slot 2 rfl) (a_cons' (e_slot 1 rfl) a_nil'))) a_nil'))))))
theorem same_fewest_pushes (ss : List Sv) (μ : Mu) (r : Res Sv) (hs : ss.length = 2) (wf : Wf μ) (e : F_fewest_pushes ss μ = some r) : ∃ r', G_fewest_pushes (ini 3 ss) μ = some r' ∧ Agree μ.length r r' :=
  same_T (n := 2) (fun ds h => by
    obtain ⟨a0, a1, rfl⟩ := len2 h
    exact r_e (tt_fewest_pushes a0 a1)) ss μ r hs wf e
end Pf

set_option maxHeartbeats 1000000
namespace Pf
open PySem PySem.Spec PyProof.Rows L2
/-! ### ancestors in a tree, and the ways that pass them -/
/-- v is m, or above it -/
inductive Anc (rows : List (Int × Int)) (v : Nat) : Nat → Prop where
  | refl : Anc rows v v
  | step {m : Nat} (h : v < m) (r : Anc rows v (par rows m)) : Anc rows v m
section
variable {rows : List (Int × Int)} (ok : TreeOk rows)
theorem Anc.le {v m : Nat} (h : Anc rows v m) : v ≤ m := by
  cases h with
  | refl => exact Nat.le_refl _
  | step h _ => exact Nat.le_of_lt h
include ok
theorem par_lt {m : Nat} (h0 : 0 < m) (hm : m ≤ rows.length) : par rows m < m ∧ par rows m ≤ rows.length := by
  obtain ⟨_, _, _, _, h, _⟩ := row_of ok h0 hm
  exact ⟨h, by omega⟩
theorem dist_off : ∀ (n v m : Nat), v + m < n → v ≤ rows.length → m ≤ rows.length → 0 < v → ¬ Anc rows v m → dist rows v m = lnR rows v + dist rows (par rows v) m := by
  intro n
  induction n with
  | zero => intro v m h; omega
  | succ n ih =>
    intro v m h hv hm h0 na
    rcases Nat.lt_trichotomy v m with hlt | rfl | hgt
    · obtain ⟨p1, p2⟩ := par_lt ok (show 0 < m by omega) hm
      obtain ⟨q1, q2⟩ := par_lt ok h0 hv
      have e1 := dist_lt ok hlt hm
      have e2 := ih v (par rows m) (by omega) hv p2 h0 fun z => na (.step hlt z)
      have e3 := dist_lt ok (show par rows v < m by omega) hm
      omega
    · exact absurd Anc.refl na
    · exact dist_gt ok hgt hv
theorem dist_thru : ∀ (n u m v : Nat), u + m < n → u ≤ rows.length → m ≤ rows.length → 0 < v → Anc rows v m → ¬ Anc rows v u → dist rows u m = dist rows u (par rows v) + lnR rows v + dist rows v m := by
  intro n
  induction n with
  | zero => intro u m v h; omega
  | succ n ih =>
    intro u m v h hu hm h0 am nu
    have hvm := am.le
    have hv : v ≤ rows.length := by omega
    obtain ⟨q1, q2⟩ := par_lt ok h0 hv
    rcases Nat.lt_trichotomy u m with hlt | rfl | hgt
    · cases am with
      | refl =>
        have e1 := dist_off ok (m + u + 1) m u (by omega) hv hu h0 nu
        have c1 := dist_comm ok (u + m + 1) u m (by omega) hu hv
        have c2 := dist_comm ok (u + par rows m + 1) u (par rows m) (by omega) hu q2
        have e0 := dist_eq ok (a := m)
        omega
      | step hl r =>
        obtain ⟨p1, p2⟩ := par_lt ok (show 0 < m by omega) hm
        have e1 := dist_lt ok hlt hm
        have e2 := ih u (par rows m) v (by omega) hu p2 h0 r nu
        have e3 := dist_lt ok hl hm
        omega
    · exact absurd am nu
    · obtain ⟨p1, p2⟩ := par_lt ok (show 0 < u by omega) hu
      have e1 := dist_gt ok hgt hu
      have e2 := ih (par rows u) m v (by omega) p2 hm h0 am fun z => nu (.step (by omega) z)
      have e3 := dist_gt ok (show par rows v < u by omega) hu
      omega
/-! ### what a push serves in time: from any mark up to the least -/
/-- a set of marks that is one piece: from what isn't the least, one step up stays within -/
def Piece (rows : List (Int × Int)) (S : Nat → Prop) : Prop := ∀ v u, S v → S u → 0 < v → ¬ Anc rows v u → S (par rows v)
theorem piece_part {t : Nat → Int} (lip : ∀ x y, x ≤ rows.length → y ≤ rows.length → t x ≤ t y + dist rows y x) {m : Nat} (hm : m ≤ rows.length) (last : Int) :
    Piece rows fun o => o ≤ rows.length ∧ t o + dist rows o m ≤ last := fun v u ⟨hv, sv⟩ ⟨hu, su⟩ h0 nu => by
  obtain ⟨q1, q2⟩ := par_lt ok h0 hv
  refine ⟨q2, ?_⟩
  by_cases am : Anc rows v m
  · have e1 := dist_thru ok (u + m + 1) u m v (by omega) hu hm h0 am nu
    have e2 := dist_thru ok (par rows v + m + 1) (par rows v) m v (by omega) q2 hm h0 am fun z => by have := z.le; omega
    have e0 := dist_eq ok (a := par rows v)
    have l := lip (par rows v) u q2 hu
    omega
  · have e1 := dist_off ok (v + m + 1) v m (by omega) hv hm h0 am
    have l := lip (par rows v) v q2 hv
    have e2 := dist_gt ok q1 hv
    have e0 := dist_eq ok (a := par rows v)
    omega
theorem piece_all : Piece rows fun o => o ≤ rows.length := fun v u hv hu h0 nu => (par_lt ok h0 hv).2
theorem piece_top {S : Nat → Prop} (hS : Piece rows S) (hb : ∀ v, S v → v ≤ rows.length) {a : Nat} (ha : S a) (least : ∀ v, S v → a ≤ v) : ∀ (n w : Nat), w < n → S w → Anc rows a w := by
  intro n
  induction n with
  | zero => intro w h; omega
  | succ n ih =>
    intro w h hw
    have hl := least w hw
    rcases Nat.lt_or_eq_of_le hl with hlt | rfl
    · have hp := hS w a hw ha (by omega) fun z => by have := z.le; omega
      exact .step hlt (ih (par rows w) (by have := (par_lt ok (show 0 < w by omega) (hb w hw)).1; omega) hp)
    · exact .refl
theorem piece_has {S : Nat → Prop} (hS : Piece rows S) (hb : ∀ v, S v → v ≤ rows.length) {b : Nat} (hB : S b) {a : Nat} (hba : b ≤ a) : ∀ (n w : Nat), w < n → S w → Anc rows a w → S a := by
  intro n
  induction n with
  | zero => intro w h; omega
  | succ n ih =>
    intro w h hw aw
    cases aw with
    | refl => exact hw
    | step hlt r =>
      have hp := hS w b hw hB (by omega) fun z => by have := z.le; omega
      exact ih (par rows w) (by have := (par_lt ok (show 0 < w by omega) (hb w hw)).1; omega) hp r
/-- two pieces: if the later's least is not above the other's, and the other's is not in it, they don't meet -/
theorem piece_apart {A B : Nat → Prop} (hA : Piece rows A) (hB : Piece rows B) (bA : ∀ v, A v → v ≤ rows.length) (bB : ∀ v, B v → v ≤ rows.length) {a b : Nat} (ha : A a) (la : ∀ v, A v → a ≤ v) (hb : B b) (hba : b ≤ a) (na : ¬ B a) (w : Nat) : ¬ (A w ∧ B w) := fun ⟨h1, h2⟩ =>
  na (piece_has ok hB bB hb hba (w + 1) w (Nat.lt_succ_self _) h2 (piece_top ok hA bA ha la (w + 1) w (Nat.lt_succ_self _) h1))
end
end Pf

set_option maxHeartbeats 1000000
namespace Pf
/-! ### the tops that are chosen, from the greatest on -/
def meetStep (ps : Nat → List Nat) (s : List (Nat × Nat)) (o : Nat × Nat) : List (Nat × Nat) := if s.any (fun c => (ps o.2).contains c.1) = true then s else s ++ [o]
def meetL (ps : Nat → List Nat) (order : List (Nat × Nat)) : List (Nat × Nat) := order.foldl (meetStep ps) []
/-- what is chosen among those seen -/
structure MeetOk (ps : Nat → List Nat) (seen s : List (Nat × Nat)) : Prop where
  sub : ∀ c ∈ s, c ∈ seen
  hit : ∀ o ∈ seen, ∃ c ∈ s, c.1 ∈ ps o.2
  late : s.Pairwise fun c d => d.1 ≤ c.1 ∧ c.1 ∉ ps d.2
theorem meet_ok {ps : Nat → List Nat} : ∀ (order seen s : List (Nat × Nat)), MeetOk ps seen s → (∀ o ∈ order, o.1 ∈ ps o.2) → (seen ++ order).Pairwise (fun c d => d.1 ≤ c.1) → MeetOk ps (seen ++ order) (order.foldl (meetStep ps) s)
  | [], seen, s, h, _, _ => by
    rw [List.append_nil]
    exact h
  | o :: r, seen, s, h, ht, hp => by
    have e : seen ++ o :: r = (seen ++ [o]) ++ r := by rw [List.append_assoc]; rfl
    rw [e] at hp ⊢
    refine meet_ok r (seen ++ [o]) (meetStep ps s o) ?_ (fun x hx => ht x (List.mem_cons_of_mem _ hx)) hp
    have hso : ∀ c ∈ seen, o.1 ≤ c.1 := fun c hc => by
      have h1 := (List.pairwise_append.mp hp).1
      exact (List.pairwise_append.mp h1).2.2 c hc o (List.mem_singleton.mpr rfl)
    unfold meetStep
    by_cases c : s.any (fun c => (ps o.2).contains c.1) = true
    · rw [if_pos c]
      obtain ⟨x, hx, hm⟩ := List.any_eq_true.mp c
      refine ⟨fun c hc => List.mem_append_left _ (h.sub c hc), fun q hq => ?_, h.late⟩
      rcases List.mem_append.mp hq with hq | hq
      · exact h.hit q hq
      · rw [List.mem_singleton.mp hq]
        exact ⟨x, hx, List.contains_iff_mem.mp hm⟩
    · rw [if_neg c]
      have no : ∀ x ∈ s, x.1 ∉ ps o.2 := fun x hx z => c (List.any_eq_true.mpr ⟨x, hx, List.contains_iff_mem.mpr z⟩)
      refine ⟨fun c hc => ?_, fun q hq => ?_, ?_⟩
      · rcases List.mem_append.mp hc with hc | hc
        · exact List.mem_append_left _ (h.sub c hc)
        · exact List.mem_append_right _ hc
      · rcases List.mem_append.mp hq with hq | hq
        · obtain ⟨c, hc, hm⟩ := h.hit q hq
          exact ⟨c, List.mem_append_left _ hc, hm⟩
        · rw [List.mem_singleton.mp hq]
          exact ⟨o, List.mem_append_right _ (List.mem_singleton.mpr rfl), ht o List.mem_cons_self⟩
      · refine List.pairwise_append.mpr ⟨h.late, List.pairwise_singleton _ _, fun a ha b hb => ?_⟩
        rw [List.mem_singleton.mp hb]
        exact ⟨hso a (h.sub a ha), no a ha⟩
theorem meetL_ok {ps : Nat → List Nat} {order : List (Nat × Nat)} (ht : ∀ o ∈ order, o.1 ∈ ps o.2) (hp : order.Pairwise fun c d => d.1 ≤ c.1) : MeetOk ps order (meetL ps order) := by
  have := meet_ok order [] [] ⟨fun _ z => (nomatch z), fun _ z => (nomatch z), List.Pairwise.nil⟩ ht (by rw [List.nil_append]; exact hp)
  rw [List.nil_append] at this
  exact this
/-- the chosen parts don't meet -/
theorem meetL_apart {rows : List (Int × Int)} (ok : TreeOk rows) {ps : Nat → List Nat} {order : List (Nat × Nat)} (ht : ∀ o ∈ order, o.1 ∈ ps o.2) (hp : order.Pairwise fun c d => d.1 ≤ c.1)
    (piece : ∀ o ∈ order, Piece rows fun v => v ∈ ps o.2) (inT : ∀ o ∈ order, ∀ v ∈ ps o.2, v ≤ rows.length) (least : ∀ o ∈ order, ∀ v ∈ ps o.2, o.1 ≤ v) : (meetL ps order).Pairwise fun c d => ∀ w, ¬ (w ∈ ps c.2 ∧ w ∈ ps d.2) := by
  have m := meetL_ok ht hp
  have hsub := m.sub
  have key : ∀ (s : List (Nat × Nat)), (∀ c ∈ s, c ∈ order) → (s.Pairwise fun c d => d.1 ≤ c.1 ∧ c.1 ∉ ps d.2) → s.Pairwise fun c d => ∀ w, ¬ (w ∈ ps c.2 ∧ w ∈ ps d.2) := by
    intro s hs hl
    induction hl with
    | nil => exact List.Pairwise.nil
    | @cons a l h _ ih =>
      refine List.Pairwise.cons (fun b hb w => ?_) (ih fun c hc => hs c (List.mem_cons_of_mem _ hc))
      have ha := hs a List.mem_cons_self
      have hbo := hs b (List.mem_cons_of_mem _ hb)
      obtain ⟨h1, h2⟩ := h b hb
      exact piece_apart ok (piece a ha) (piece b hbo) (inT a ha) (inT b hbo) (ht a ha) (least a ha) (ht b hbo) h1 h2 w
  exact key _ hsub m.late
end Pf

set_option maxHeartbeats 1000000
namespace Pf
open PySem PySem.Spec PyProof.Rows L2
/-! ### sorted(pairs, reverse=True) -/
theorem leR_eq (p q : Int × Int) : PySem.W.dataLe true encP p q = decide (q.1 < p.1 ∨ (q.1 = p.1 ∧ q.2 ≤ p.2)) := by
  show (!PySem.W.dataLt (.tuple [.int p.1, .int p.2]) (.tuple [.int q.1, .int q.2])) = _
  rw [PySem.W.dataLt_ii]
  by_cases h : q.1 < p.1 ∨ (q.1 = p.1 ∧ q.2 ≤ p.2)
  · have h' : ¬ (p.1 < q.1 ∨ (p.1 = q.1 ∧ p.2 < q.2)) := by omega
    simp [h, h']
  · have h' : p.1 < q.1 ∨ (p.1 = q.1 ∧ p.2 < q.2) := by omega
    simp [h, h']
theorem sortR_perm (ps : List (Int × Int)) : (sortR ps).Perm ps := List.mergeSort_perm _ _
theorem sortR_dec (ps : List (Int × Int)) : (sortR ps).Pairwise fun c d => d.1 ≤ c.1 := by
  have h : (sortR ps).Pairwise fun c d => PySem.W.dataLe true encP c d = true := List.pairwise_mergeSort (fun a b c h1 h2 => by
    rw [leR_eq, decide_eq_true_eq] at h1 h2 ⊢
    omega) (fun a b => by
    rw [leR_eq, leR_eq, Bool.or_eq_true, decide_eq_true_eq, decide_eq_true_eq]
    omega) ps
  refine h.imp fun {c d} e => ?_
  rw [leR_eq, decide_eq_true_eq] at e
  omega
def castP (p : Nat × Nat) : Int × Int := ((p.1 : Nat), (p.2 : Nat))
theorem sortR_nat (ps : List (Nat × Nat)) : ∃ qs : List (Nat × Nat), sortR (ps.map castP) = qs.map castP ∧ qs.Perm ps ∧ qs.Pairwise fun c d => d.1 ≤ c.1 := by
  have hp := sortR_perm (ps.map castP)
  have hd := sortR_dec (ps.map castP)
  obtain ⟨qs, hq⟩ : ∃ qs : List (Nat × Nat), qs = (sortR (ps.map castP)).map fun p => (p.1.toNat, p.2.toNat) := ⟨_, rfl⟩
  have e : qs.map castP = sortR (ps.map castP) := by
    rw [hq, List.map_map]
    refine (List.map_congr_left fun p hpm => ?_).trans (List.map_id _)
    obtain ⟨x, _, rfl⟩ := List.mem_map.mp (hp.mem_iff.mp hpm)
    rfl
  have back : (ps.map castP).map (fun p => (p.1.toNat, p.2.toNat)) = ps := by
    rw [List.map_map]
    exact (List.map_congr_left fun p _ => rfl).trans (List.map_id _)
  refine ⟨qs, e.symm, ?_, ?_⟩
  · have := hp.map (fun p : Int × Int => (p.1.toNat, p.2.toNat))
    rw [back, ← hq] at this
    exact this
  · rw [← e] at hd
    have := List.pairwise_map.mp hd
    exact this.imp fun {c d} h => by
      have h' : ((d.1 : Nat) : Int) ≤ (c.1 : Nat) := h
      omega
theorem asPairs_map : ∀ ps : List (Int × Int), asPairs (ps.map encP) = some ps
  | [] => rfl
  | p :: ps => by
    show (asPairs (ps.map encP)).map ((p.1, p.2) :: ·) = _
    rw [asPairs_map ps]
    rfl
theorem oSortR_map {ps : List (Int × Int)} (h : ps.length ≤ 1000) : oSortR (.list (ps.map encP)) = some (.list ((sortR ps).map encP)) := by
  show (match asPairs (ps.map encP) with | some ps => if ps.length ≤ 1000 then some (PyData.list ((sortR ps).map encP)) else none | none => none) = _
  rw [asPairs_map]
  exact if_pos h
/-! ### chosen in a part -/
theorem plain_marks : ∀ ms : List Nat, PyData.plainAll (ms.map mkD) = true
  | [] => by simp [PyData.plainAll]
  | m :: ms => by
    have := plain_marks ms
    simp [PyData.plainAll, PyData.plain, mkD, this]
theorem any_marks (k : Nat) : ∀ ms : List Nat, ((ms.map mkD).any fun z => PyData.eqv z (mkD k)) = ms.contains k
  | [] => rfl
  | m :: ms => by
    rw [List.map_cons, List.any_cons, any_marks k ms, List.contains_cons]
    congr 1
    unfold mkD
    by_cases h : k = m
    · rw [h]
      simp [PyData.eqv]
    · have : ¬ ((m : Int) = (k : Int)) := by omega
      have e1 : (k == m) = false := by simpa using h
      have e2 : (((m : Nat) : Int) == ((k : Nat) : Int)) = false := by
        rw [beq_eq_false_iff_ne]
        exact this
      simp only [PyData.eqv, e1, e2]
theorem cIn_marks (k : Nat) (ms : List Nat) : cIn (mkD k) (marksD ms) = some (ms.contains k) := by
  have hp : (mkD k).plain = true := by simp [PyData.plain, mkD]
  have hd : (mkD k).depth ≤ 60 := by simp [PyData.depth, mkD]
  have : cIn (mkD k) (marksD ms) = if (PyData.plainAll (ms.map mkD) && ((mkD k).plain && decide ((mkD k).depth ≤ 60))) = true then some ((ms.map mkD).any fun z => PyData.eqv z (mkD k)) else none := rfl
  rw [this, plain_marks, hp, decide_eq_true hd, any_marks]
  rfl
def topsD (s : List (Nat × Nat)) : List PyData := s.map fun c => mkD c.1
def chosD (s : List (Nat × Nat)) : List PyData := s.map fun c => mkD c.2
theorem oAny_map {α : Type} (f : α → Bool) (xs : List α) : oAny (.list (xs.map fun x => PyData.bool (f x))) = some (.bool (xs.any f)) := by
  have e : (xs.map fun x => PyData.bool (f x)) = (xs.map f).map PyData.bool := by
    rw [List.map_map]
    rfl
  rw [e]
  show (asBools ((xs.map f).map PyData.bool)).map (fun bs => PyData.bool (bs.any id)) = _
  rw [asBools_map, Option.map, List.any_map]
  rfl
theorem foldM_sim {α σ τ : Type} {f : σ → PyData → S σ} {enc : α → PyData} {g : τ → α → τ} {abs : τ → σ} (sz : τ → Nat) (grow : ∀ t x, sz (g t x) ≤ sz t + 1) : ∀ (xs : List α) (t : τ), (∀ x ∈ xs, ∀ t, sz t ≤ 1000 → f (abs t) (enc x) = S.ret (abs (g t x))) → sz t + xs.length ≤ 1000 → S.foldM f (xs.map enc) (abs t) = S.ret (abs (xs.foldl g t))
  | [], t, _, _ => rfl
  | x :: xs, t, st, hl => by
    rw [List.map_cons]
    unfold S.foldM
    rw [List.length_cons] at hl
    rw [st x List.mem_cons_self t (by omega), S.ret_bind]
    have := grow t x
    exact foldM_sim sz grow xs (g t x) (fun y hy => st y (List.mem_cons_of_mem _ hy)) (by omega)
theorem meet_grow (P : Nat → List Nat) (s : List (Nat × Nat)) (o : Nat × Nat) : (meetStep P s o).length ≤ s.length + 1 := by
  unfold meetStep
  split
  · omega
  · rw [List.length_append]
    exact Nat.le_refl _
/-- the parts as _meet_parts takes them -/
theorem T_meet {N : Nat} (hN : N ≤ 100) {P : Nat → List Nat} {tp : Nat → Nat} (ht : ∀ m, m < N → ∃ r, P m = tp m :: r) :
    ∃ order : List (Nat × Nat), order.Perm ((List.range N).map fun k => (tp k, k)) ∧ (order.Pairwise fun c d => d.1 ≤ c.1) ∧
      T__meet_parts (.list ((List.range N).map fun m => marksD (P m))) = S.ret (.tuple [.list (topsD (meetL P order)), .list (chosD (meetL P order))]) := by
  obtain ⟨order, eo, po, dec⟩ := sortR_nat ((List.range N).map fun k => (tp k, k))
  have ol : order.length = N := by rw [po.length_eq, List.length_map, List.length_range]
  have inN : ∀ o ∈ order, o.2 < N := fun o ho => by
    obtain ⟨k, hk, rfl⟩ := List.mem_map.mp (po.mem_iff.mp ho)
    exact List.mem_range.mp hk
  refine ⟨order, po, dec, ?_⟩
  unfold T__meet_parts
  simp only [S.ret_bind, seqD_l, Option.map_some, S.lift_some, enu_rng, S.bind_assoc]
  rw [szD_ok (by rw [List.length_map, List.length_range]; omega), S.lift_some, S.ret_bind, S.mapM_map, S.mapM_ret (g := fun k => encP (castP (tp k, k)))]
  · have em : ((List.range N).map fun k => encP (castP (tp k, k))) = (((List.range N).map fun k => (tp k, k)).map castP).map encP := by rw [List.map_map, List.map_map]; rfl
    rw [S.ret_bind, em, oSortR_map (by rw [List.length_map, List.length_map, List.length_range]; omega), eo, S.lift_some, S.ret_bind]
    simp only [seqD_l, S.lift_some, S.ret_bind]
    have e0 : (([], []) : List PyData × List PyData) = (topsD [], chosD []) := rfl
    have e2 : (order.map castP).map encP = order.map fun o => encP (castP o) := by rw [List.map_map]; rfl
    rw [e0, e2]
    refine S.bind_eq (foldM_sim (abs := fun s => (topsD s, chosD s)) (enc := fun o => encP (castP o)) (g := meetStep P) List.length (meet_grow P) order [] (fun o ho s hs => ?_) (by rw [ol]; simp only [List.length_nil]; omega)) rfl
    have on := inN o ho
    have un : un2 (encP (castP o)) = some (mkD o.1, mkD o.2) := rfl
    have ix : oIx (.list ((List.range N).map fun m => marksD (P m))) (mkD o.2) = some (marksD (P o.2)) := oIx_l (f := fun m => marksD (P m)) (List.getElem?_range on)
    simp only [un, S.lift_some, S.ret_bind, ix, S.bind_assoc]
    unfold topsD
    rw [szD_ok (by rw [List.length_map]; omega), S.lift_some, S.ret_bind, S.mapM_map, S.mapM_ret (g := fun c : Nat × Nat => PyData.bool ((P o.2).contains c.1))]
    · rw [S.ret_bind, oAny_map]
      have a1 : appD (s.map fun c => mkD c.1) (mkD o.1) = some ((s ++ [o]).map fun c => mkD c.1) := by
        rw [appD_ok (by rw [List.length_map]; omega), List.map_append]
        rfl
      have a2 : appD (chosD s) (mkD o.2) = some (chosD (s ++ [o])) := by
        unfold chosD
        rw [appD_ok (by rw [List.length_map]; omega), List.map_append]
        rfl
      simp only [S.lift_some, S.ret_bind, toB_b, meetStep]
      cases s.any fun c => (P o.2).contains c.1 with
      | true => simp only [Bool.not_true, Bool.false_eq_true, if_false, if_true, S.ret_bind]
      | false => simp only [Bool.not_false, if_true, Bool.false_eq_true, if_false, S.ret_bind, S.bind_assoc, a1, a2, S.lift_some]
    · intro c _
      rw [cIn_marks, asB2_b, S.lift_some, S.noEx_ret]
  · intro k hk
    have hk := List.mem_range.mp hk
    obtain ⟨r, hr⟩ := ht k hk
    have i0 : oIx (marksD (P k)) (.int 0) = some (mkD (tp k)) := by
      rw [hr]
      exact atI_0 _ _
    simp only [un2_t, S.lift_some, S.ret_bind, i0, S.noEx_ret]
    rfl
end Pf

set_option maxHeartbeats 1000000
namespace Pf
open PySem PySem.Spec PyProof.Rows L2
end Pf

set_option maxHeartbeats 1000000
namespace Pf
open PySem PySem.Spec PyProof.Rows L2
/-! ### pushes and their falls -/
def pushB (rows : List (Int × Int)) (p : Int × Int) : Bool := (decide (0 ≤ p.1) && decide (p.1 ≤ rows.length)) && (decide (0 ≤ p.2) && decide (p.2 ≤ 1000000000))
def PushR (n : Nat) (p : Int × Int) : Prop := 0 ≤ p.1 ∧ p.1 < n ∧ 0 ≤ p.2 ∧ p.2 ≤ 1000000000
theorem PushR.b {rows : List (Int × Int)} {p : Int × Int} (h : PushR (rows.length + 1) p) : pushB rows p = true := by
  obtain ⟨a, b, c, d⟩ := h
  have b' : p.1 ≤ rows.length := by omega
  simp [pushB, a, b', c, d]
end Pf

set_option maxHeartbeats 1000000
namespace Pf
open PySem PySem.Spec PyProof.Rows L2
/-! ### two trees joined by a row -/
def joinL (rows : List (Int × Int)) (m : Nat) (l : Int) (rs : List (Int × Int)) : List (Int × Int) := rows ++ ((m : Int), l) :: rs.map fun r => (r.1 + ((rows.length : Nat) + 1 : Int), r.2)
section
variable {rows rs : List (Int × Int)} {m : Nat} {l : Int}
variable (ok : TreeOk rows) (ok2 : TreeOk rs) (hm : m ≤ rows.length) (okW : TreeOk (joinL rows m l rs))
include ok okW in
include ok ok2 okW hm in
include ok2 okW in
end
end Pf

set_option maxHeartbeats 1000000
namespace Pf
open PySem PySem.Spec PyProof.Rows L2
/-! ### falls and needed pushes in a joined tree -/
section
variable {rows rs : List (Int × Int)} {m : Nat} {l : Int} (ok : TreeOk rows) (ok2 : TreeOk rs) (hm : m ≤ rows.length) (okW : TreeOk (joinL rows m l rs)) (hl : 1 ≤ l)
include ok ok2 okW hm hl in
include ok ok2 okW hm in
include ok ok2 okW hm in
end
end Pf

set_option maxHeartbeats 1000000
namespace Pf
open PySem PySem.Spec PyProof.Rows L2
/-! ### possible tables, their needed pushes -/
structure Poss (rows : List (Int × Int)) (ts : List Int) : Prop where
  len : ts.length = rows.length + 1
  edge : ∀ k, 0 < k → k ≤ rows.length → tAt ts k ≤ tAt ts (par rows k) + lnR rows k ∧ tAt ts (par rows k) ≤ tAt ts k + lnR rows k
section
variable {rows : List (Int × Int)} {ts : List Int} (ok : TreeOk rows) (hp : Poss rows ts)
include ok hp in
theorem poss_dist : ∀ (n a b : Nat), a + b < n → a ≤ rows.length → b ≤ rows.length → tAt ts a ≤ tAt ts b + dist rows a b
  | 0, _, _, h, _, _ => absurd h (Nat.not_lt_zero _)
  | n + 1, a, b, h, ha, hb => by
    rcases Nat.lt_trichotomy a b with q | q | q
    · obtain ⟨r, er, _, _, hlt, _⟩ := row_of ok (m := b) (by omega) hb
      have i := poss_dist n a (par rows b) (by omega) ha (by omega)
      have e := hp.edge b (by omega) hb
      rw [dist_lt ok q hb]
      omega
    · subst q
      rw [dist_eq ok]
      omega
    · obtain ⟨r, er, _, _, hlt, _⟩ := row_of ok (m := a) (by omega) ha
      have i := poss_dist n (par rows a) b (by omega) (by omega) hb
      have e := hp.edge a (by omega) ha
      rw [dist_gt ok q ha]
      omega
include ok hp in
include ok hp in
include ok hp in
include ok hp in
end
end Pf

set_option maxHeartbeats 1000000
namespace Pf
open PySem PySem.Spec PyProof.Rows L2
/-! ### what fewest_pushes gives -/
structure FewOk (rows : List (Int × Int)) (ws : List (Int × Option Int)) (tops marks : List Nat) : Prop where
  up : tops.Pairwise (· < ·)
  upM : marks.Pairwise (· < ·)
  len : tops.length = marks.length
  ne : tops ≠ []
  le : ∀ c ∈ tops, c ≤ rows.length
  leM : ∀ m ∈ marks, m ≤ rows.length
  hit : ∀ m, m ≤ rows.length → ∃ c ∈ tops, c ∈ partL rows ws m
  apart : ∀ a ∈ marks, ∀ b ∈ marks, a ≠ b → ∀ w, ¬ (w ∈ partL rows ws a ∧ w ∈ partL rows ws b)
theorem asInts_m : ∀ ns : List Int, asInts (ns.map PyData.int) = some ns
  | [] => rfl
  | n :: ns => by
    show (asInts (ns.map PyData.int)).map (n :: ·) = _
    rw [asInts_m ns]
    rfl
theorem meet_len (P : Nat → List Nat) : ∀ (order s : List (Nat × Nat)), (order.foldl (meetStep P) s).length ≤ s.length + order.length
  | [], s => Nat.le_refl _
  | o :: r, s => by
    have h1 := meet_len P r (meetStep P s o)
    have h2 := meet_grow P s o
    rw [List.length_cons]
    show (r.foldl (meetStep P) (meetStep P s o)).length ≤ _
    omega
theorem sortL_nat (ns : List Nat) : ∃ ms : List Nat, sortL (ns.map fun k => ((k : Nat) : Int)) = ms.map (fun k => ((k : Nat) : Int)) ∧ ms.Perm ns ∧ ms.Pairwise (· ≤ ·) := by
  have hp := sortL_perm (ns.map fun k => ((k : Nat) : Int))
  have hd := sortL_le (ns.map fun k => ((k : Nat) : Int))
  obtain ⟨ms, hq⟩ : ∃ ms : List Nat, ms = (sortL (ns.map fun k => ((k : Nat) : Int))).map Int.toNat := ⟨_, rfl⟩
  have e : ms.map (fun k => ((k : Nat) : Int)) = sortL (ns.map fun k => ((k : Nat) : Int)) := by
    rw [hq, List.map_map]
    refine (List.map_congr_left fun p hpm => ?_).trans (List.map_id _)
    obtain ⟨x, _, rfl⟩ := List.mem_map.mp (hp.mem_iff.mp hpm)
    rfl
  have back : (ns.map fun k => ((k : Nat) : Int)).map Int.toNat = ns := by
    rw [List.map_map]
    exact (List.map_congr_left fun p _ => rfl).trans (List.map_id _)
  refine ⟨ms, e.symm, ?_, ?_⟩
  · have := hp.map Int.toNat
    rw [back, ← hq] at this
    exact this
  · rw [← e] at hd
    exact (List.pairwise_map.mp hd).imp fun {a b} h => by omega
section
variable {rows : List (Int × Int)} (g : TreeG rows) {ws : List (Int × Option Int)} (hw : ws.length = rows.length + 1)
include g hw
theorem lowT_at {k : Nat} (h : k ≤ rows.length) : tAt (lowL rows ws) k = lowI rows ws k := by
  unfold tAt lowL
  rw [List.getElem?_map, List.getElem?_range (by omega)]
  rfl
theorem lowT_poss : Poss rows (lowL rows ws) where
  len := by
    unfold lowL
    rw [List.length_map, List.length_range, hw]
  edge := fun k h0 hk => by
    obtain ⟨r, _, _, _, hp, _⟩ := row_of g.ok h0 hk
    rw [lowT_at g hw hk, lowT_at g hw (show par rows k ≤ rows.length by omega)]
    have := low_row g.ok hw h0 hk
    omega
theorem low_lip (x y : Nat) (hx : x ≤ rows.length) (hy : y ≤ rows.length) : lowI rows ws x ≤ lowI rows ws y + dist rows y x := by
  have := poss_dist g.ok (lowT_poss g hw) (x + y + 1) x y (by omega) hx hy
  rw [lowT_at g hw hx, lowT_at g hw hy, dist_comm g.ok _ x y (Nat.lt_succ_self _) hx hy] at this
  exact this
theorem part_le {m v : Nat} (h : v ∈ partL rows ws m) : v ≤ rows.length := by
  unfold partL at h
  have := List.mem_range.mp (List.mem_filter.mp h).1
  omega
theorem part_iff {m v : Nat} : v ∈ partL rows ws m ↔ v ≤ rows.length ∧ ∀ l, (wAt ws m).2 = some l → lowI rows ws v + dist rows v m ≤ l := by
  unfold partL
  rw [List.mem_filter, List.mem_range]
  unfold partB
  cases e : (wAt ws m).2 with
  | none =>
    simp only [and_true]
    constructor
    · intro h
      exact ⟨by omega, fun l z => nomatch z⟩
    · intro h
      omega
  | some l =>
    rw [decide_eq_true_eq]
    constructor
    · rintro ⟨a, b⟩
      exact ⟨by omega, fun l' z => by cases z; exact b⟩
    · rintro ⟨a, b⟩
      exact ⟨by omega, b l rfl⟩
theorem part_piece {m : Nat} (hm : m ≤ rows.length) : Piece rows fun v => v ∈ partL rows ws m := by
  cases e : (wAt ws m).2 with
  | none =>
    have h := piece_all g.ok
    intro v u hv hu h0 nu
    have z := h v u (part_le g hw hv) (part_le g hw hu) h0 nu
    exact (part_iff g hw).mpr ⟨z, fun l q => by rw [e] at q; cases q⟩
  | some l =>
    have h := piece_part g.ok (t := lowI rows ws) (low_lip g hw) hm l
    intro v u hv hu h0 nu
    obtain ⟨a1, a2⟩ := (part_iff g hw).mp hv
    obtain ⟨b1, b2⟩ := (part_iff g hw).mp hu
    obtain ⟨c1, c2⟩ := h v u ⟨a1, a2 l e⟩ ⟨b1, b2 l e⟩ h0 nu
    exact (part_iff g hw).mpr ⟨c1, fun l' q => by rw [e] at q; cases q; exact c2⟩
theorem part_self (hf : findP (dist rows) ws = none) {m : Nat} (hm : m ≤ rows.length) : m ∈ partL rows ws m := (part_iff g hw).mpr ⟨hm, fun l e => by
  have := low_last g.ok hw hf hm e
  rw [dist_eq g.ok]
  omega⟩
theorem part_sorted (m : Nat) : (partL rows ws m).Pairwise (· < ·) := List.Pairwise.filter _ List.pairwise_lt_range
/-- the chosen, sorted -/
theorem few_of (hf : findP (dist rows) ws = none) {tp : Nat → Nat} (ht : ∀ m, m < rows.length + 1 → ∃ r, partL rows ws m = tp m :: r) {order : List (Nat × Nat)} (po : order.Perm ((List.range (rows.length + 1)).map fun k => (tp k, k))) (dec : order.Pairwise fun c d => d.1 ≤ c.1)
    {tops marks : List Nat} (pt : tops.Perm ((meetL (partL rows ws) order).map (·.1))) (st : tops.Pairwise (· ≤ ·)) (pm : marks.Perm ((meetL (partL rows ws) order).map (·.2))) (sm : marks.Pairwise (· ≤ ·)) : FewOk rows ws tops marks := by
  have ino : ∀ o ∈ order, o.2 ≤ rows.length ∧ o.1 = tp o.2 := fun o ho => by
    obtain ⟨k, hk, rfl⟩ := List.mem_map.mp (po.mem_iff.mp ho)
    have := List.mem_range.mp hk
    exact ⟨by show k ≤ rows.length; omega, rfl⟩
  have hin : ∀ o ∈ order, o.1 ∈ partL rows ws o.2 := fun o ho => by
    obtain ⟨a, b⟩ := ino o ho
    obtain ⟨r, e⟩ := ht o.2 (by omega)
    rw [e, b]
    exact List.mem_cons_self
  have least : ∀ o ∈ order, ∀ v ∈ partL rows ws o.2, o.1 ≤ v := fun o ho v hv => by
    obtain ⟨a, b⟩ := ino o ho
    obtain ⟨r, e⟩ := ht o.2 (by omega)
    have so := part_sorted g hw o.2
    rw [e] at so hv
    rw [b]
    rcases List.mem_cons.mp hv with rfl | hv
    · exact Nat.le_refl _
    · exact Nat.le_of_lt ((List.pairwise_cons.mp so).1 v hv)
  have mo := meetL_ok hin dec
  have ap := meetL_apart g.ok hin dec (fun o ho => part_piece g hw (ino o ho).1) (fun o ho v hv => part_le g hw hv) least
  obtain ⟨s, es⟩ : ∃ s, s = meetL (partL rows ws) order := ⟨_, rfl⟩
  rw [← es] at mo ap pt pm
  have hs : ∀ c ∈ s, c ∈ order := mo.sub
  -- the tops are of their own
  have dis : s.Pairwise fun c d => c.1 ≠ d.1 ∧ c.2 ≠ d.2 := by
    have key : ∀ l : List (Nat × Nat), (∀ c ∈ l, c ∈ order) → (l.Pairwise fun c d => d.1 ≤ c.1 ∧ c.1 ∉ partL rows ws d.2) → l.Pairwise fun c d => c.1 ≠ d.1 ∧ c.2 ≠ d.2 := by
      intro l hl h
      induction h with
      | nil => exact List.Pairwise.nil
      | @cons a l h _ ih =>
        refine List.Pairwise.cons (fun d hd => ?_) (ih fun c hc => hl c (List.mem_cons_of_mem _ hc))
        obtain ⟨_, no⟩ := h d hd
        have ha := hl a List.mem_cons_self
        have hdo := hl d (List.mem_cons_of_mem _ hd)
        refine ⟨fun z => no (by rw [z]; exact hin d hdo), fun z => no ?_⟩
        rw [← z]
        exact hin a ha
    exact key s hs mo.late
  have nt : tops.Nodup := pt.nodup_iff.mpr (List.pairwise_map.mpr (dis.imp fun h => h.1))
  have nm : marks.Nodup := pm.nodup_iff.mpr (List.pairwise_map.mpr (dis.imp fun h => h.2))
  have strict : ∀ {l : List Nat}, l.Pairwise (· ≤ ·) → l.Nodup → l.Pairwise (· < ·) := fun {l} h1 h2 => (h1.and h2).imp fun {a b} h => Nat.lt_of_le_of_ne h.1 h.2
  have inT : ∀ c ∈ tops, ∃ d ∈ s, c = d.1 := fun c hc => by
    obtain ⟨d, hd, e⟩ := List.mem_map.mp (pt.mem_iff.mp hc)
    exact ⟨d, hd, e.symm⟩
  have inM : ∀ c ∈ marks, ∃ d ∈ s, c = d.2 := fun c hc => by
    obtain ⟨d, hd, e⟩ := List.mem_map.mp (pm.mem_iff.mp hc)
    exact ⟨d, hd, e.symm⟩
  have hitS : ∀ m, m ≤ rows.length → ∃ c ∈ s, c.1 ∈ partL rows ws m := fun m hm => by
    have : (tp m, m) ∈ order := po.mem_iff.mpr (List.mem_map.mpr ⟨m, List.mem_range.mpr (by omega), rfl⟩)
    exact mo.hit _ this
  refine ⟨strict st nt, strict sm nm, by rw [pt.length_eq, pm.length_eq, List.length_map, List.length_map], fun z => ?_, fun c hc => ?_, fun m hm => ?_, fun m hm => ?_, fun a ha b hb nab w => ?_⟩
  · obtain ⟨c, hc, _⟩ := hitS 0 (Nat.zero_le _)
    have : c.1 ∈ tops := pt.mem_iff.mpr (List.mem_map.mpr ⟨c, hc, rfl⟩)
    rw [z] at this
    cases this
  · obtain ⟨d, hd, rfl⟩ := inT c hc
    exact part_le g hw (hin d (hs d hd))
  · obtain ⟨d, hd, rfl⟩ := inM m hm
    exact (ino d (hs d hd)).1
  · obtain ⟨c, hc, h⟩ := hitS m hm
    exact ⟨c.1, pt.mem_iff.mpr (List.mem_map.mpr ⟨c, hc, rfl⟩), h⟩
  · obtain ⟨c, hc, rfl⟩ := inM a ha
    obtain ⟨d, hd, rfl⟩ := inM b hb
    have p1 : s.Pairwise fun c d => c.2 ≠ d.2 → ∀ w, ¬ (w ∈ partL rows ws c.2 ∧ w ∈ partL rows ws d.2) := by
      refine ap.imp ?_
      intro a b h _
      exact h
    have p2 : s.Pairwise fun c d => d.2 ≠ c.2 → ∀ w, ¬ (w ∈ partL rows ws d.2 ∧ w ∈ partL rows ws c.2) := by
      refine ap.imp ?_
      intro a b h _ w z
      exact h w ⟨z.2, z.1⟩
    have := List.Pairwise.forall_of_forall_of_flip (R := fun c d : Nat × Nat => c.2 ≠ d.2 → ∀ w, ¬ (w ∈ partL rows ws c.2 ∧ w ∈ partL rows ws d.2)) (fun x _ h => absurd rfl h) p1 p2
    exact this hc hd nab w
/-- fewest_pushes, as it stands -/
theorem T_fewest (hf : findP (dist rows) ws = none) : ∃ tops marks : List Nat, FewOk rows ws tops marks ∧ T_fewest_pushes (treeD rows) (winsD ws) = S.ret (.tuple [.tuple (tops.map fun k => .tuple [mkD k, .int (lowI rows ws k)]), marksD marks]) := by
  have hl := g.len
  have ht : ∀ m, m < rows.length + 1 → ∃ r, partL rows ws m = (partL rows ws m).headD 0 :: r := fun m hm => by
    have := part_self g hw hf (show m ≤ rows.length by omega)
    cases e : partL rows ws m with
    | nil =>
      rw [e] at this
      cases this
    | cons x r => exact ⟨r, rfl⟩
  obtain ⟨order, po, dec, em⟩ := T_meet (N := rows.length + 1) (by omega) (P := partL rows ws) ht
  obtain ⟨s, es⟩ : ∃ s, s = meetL (partL rows ws) order := ⟨_, rfl⟩
  obtain ⟨tops, et, pt, st⟩ := sortL_nat (s.map (·.1))
  obtain ⟨marks, ek, pk, sk⟩ := sortL_nat (s.map (·.2))
  have few := few_of g hw hf ht po dec (by rw [← es]; exact pt) st (by rw [← es]; exact pk) sk
  refine ⟨tops, marks, few, ?_⟩
  rw [← es] at em
  have o1 : oSort (.list (topsD s)) = some (.list (tops.map mkD)) := by
    have e1 : topsD s = ((s.map (·.1)).map fun k => ((k : Nat) : Int)).map .int := by unfold topsD; rw [List.map_map, List.map_map]; rfl
    rw [e1]
    show (asInts _).map (fun ns => PyData.list ((sortL ns).map .int)) = _
    rw [asInts_m, Option.map, et, List.map_map]
    rfl
  have o2 : oSort (.list (chosD s)) = some (.list (marks.map mkD)) := by
    have e1 : chosD s = ((s.map (·.2)).map fun k => ((k : Nat) : Int)).map .int := by unfold chosD; rw [List.map_map, List.map_map]; rfl
    rw [e1]
    show (asInts _).map (fun ns => PyData.list ((sortL ns).map .int)) = _
    rw [asInts_m, Option.map, ek, List.map_map]
    rfl
  have lt : tops.length ≤ 1000 := by
    have h1 := meet_len (partL rows ws) order []
    have h2 : (meetL (partL rows ws) order).length ≤ ([] : List (Nat × Nat)).length + order.length := h1
    rw [← es, po.length_eq, List.length_map, List.length_range, List.length_nil] at h2
    rw [pt.length_eq, List.length_map]
    omega
  unfold T_fewest_pushes
  simp only [S.ret_bind, u1, u2, u3, T_dists g, T_earlyAt g hw, hf]
  unfold T__fewest_at
  simp only [S.ret_bind, u1, u4, oLen_wins, S.lift_some, rngD_ok (show ws.length ≤ 1000000000 by omega), fromTo_map, S.bind_assoc]
  rw [szD_ok (by rw [List.length_map, List.length_range]; omega), S.lift_some, S.ret_bind, S.mapM_map, S.mapM_ret (g := fun m => marksD (partL rows ws m))]
  · rw [S.ret_bind, hw, em]
    simp only [S.ret_bind, un2_t, S.lift_some, o1, o2, seqD_l, oTuple_l]
    rw [szD_ok (by rw [List.length_map]; omega), S.lift_some, S.ret_bind, S.mapM_map, S.mapM_ret (g := fun k => PyData.tuple [mkD k, .int (lowI rows ws k)])]
    · simp only [S.ret_bind, oTuple_l, S.lift_some]
      rfl
    · intro k hk
      have := few.le k hk
      rw [lowL_at (show k < ws.length by omega), S.lift_some, S.ret_bind, S.noEx_ret]
  · intro m hm
    have := List.mem_range.mp hm
    rw [T_partP g hw (show m ≤ rows.length by omega), S.noEx_ret]
theorem T_fewestE {p : Nat × Nat} (hf : findP (dist rows) ws = some p) : T_fewest_pushes (treeD rows) (winsD ws) = S.thr ⟨"NoTable", some ("pair", pairOD p)⟩ := by
  unfold T_fewest_pushes
  simp only [S.ret_bind, u1, u2, T_dists g, T_earlyAt g hw, hf, S.thr_bind, S.bind_assoc]
end
end Pf

namespace Pf
open PySem PySem.Spec PyProof.Rows L2
/-! ### sorted(set(t)), t a tuple of ints -/
theorem dd_only {ns ms : List Int} (hs : ms.Pairwise (· < ·)) (hm : ∀ k, k ∈ ms ↔ k ∈ ns) : ms = sortL (dd ns) := by
  have nm : ms.Nodup := hs.imp fun h => Int.ne_of_lt h
  have p : ms.Perm (dd ns) := (List.perm_ext_iff_of_nodup nm (dd_nodup ns)).mpr fun k => (hm k).trans (dd_mem ns).symm
  exact sortL_only p (hs.imp fun h => Int.le_of_lt h)
section
variable {X : Cx} {E : XK} {a : Expr} {Fa : Rho → M Sv} {p p2 q pos : Pos}
def tSortSet (K : PySem.W.Frag) (ta : TE) : TE := fun σ H Q => ta σ H fun x H1 => ∃ (l : Addr) (ns : List Int), x = .ref l ∧ SqT K H1 l (ns.map V.int) ∧ ns.length < 60 ∧ ∀ pa, H1 pa = none → Q (.ref pa) (upd H1 pa (.lst ((sortL (dd ns)).map V.int)))
theorem pe_sortSet {ta : TE} (hg : Gl X "sorted") (hm : X.mg "sorted" = none) (hg2 : Gl X "set") (hm2 : X.mg "set" = none) (ha : PE X a ta) (hc : X.calm = true)
    (na : starEach [a] X.env = (false, eval a X.env) :: starEach [] X.env) : PE X (.Call (.Name "sorted" p) [.Call (.Name "set" p2) [a] [] q] [] pos) (tSortSet X.K ta) := by
  refine ⟨fun pins s σ H Q I h => ?_⟩
  refine Call_ (ld_blt I hg hm (by decide +kernel : bootBuiltins "sorted" = some (.builtin "sorted")) ?_)
  refine PyProof.Rows.callWith_builtin1 (PyProof.Rows.args_cons ?_ rfl) rfl rfl
  refine Call_ (ld_blt I hg2 hm2 boot_set ?_)
  refine PyProof.Rows.callWith_type1 (PyProof.Rows.args_cons (thn (ha.run pins s σ H _ I h) fun v s1 ⟨x, H1, I1, r1, q1⟩ => PyProof.Rows.args_nil ?_) na) na rfl
  obtain ⟨l, ns, rfl, hq, hl, q1⟩ := q1
  cases r1
  obtain ⟨its, r, pl, hz⟩ := I1.tuple hq
  refine call_set_tupI (ns := ns) (I1.ok.hd hc) pl (by simpa using RZ.intsAre_vals r) (by unfold scanBound; omega) fun h' tk c R hcn hk => ?_
  refine PyProof.Rows.args_nil ?_
  have I2 : Inv X pins σ H1 { s1 with heap := h', toks := tk } := I1.kept fun b o e => hk b o e
  refine sorted_set (s := { s1 with heap := h', toks := tk }) R (I2.ok.hd hc) (by omega) fun s' pa out c2 ms k g o hp hgt hi hs hmem hlen => ?_
  have em : ms = sortL (dd ns) := dd_only hs fun j => by
    rw [hmem j, decide_eq_true_eq]
  have hlen2 : (ms.map V.int).length ≤ sizeLine := by rw [List.length_map, hlen, sizeLine_eq]; omega
  have hn : H1 pa = none := I2.hok.fresh hp
  have J : Inv X pins σ (upd H1 pa (.lst (ms.map V.int))) { { s1 with heap := h', toks := tk } with heap := s'.heap, gens := s'.gens, drawn := s'.drawn, toks := s'.toks } :=
    I2.call (ch := []) (Un.laid k hp hn) (I2.hok.laid k hp ⟨hlen2, out.toList, c2, vals_of_ints hi, hgt⟩) (by rw [g]; exact I2.bare) (fun _ z => nomatch z)
  have es : s' = { { s1 with heap := h', toks := tk } with heap := s'.heap, gens := s'.gens, drawn := s'.drawn, toks := s'.toks } := by
    cases s'
    cases o
    rfl
  rw [es]
  refine ⟨.ref pa, _, J, rfl, ?_⟩
  rw [em]
  exact q1 pa hn
end
end Pf

set_option maxHeartbeats 3200000
namespace L2
open PySem PySem.Spec PyProof.Rows
section
variable {P : Program} {w : World} {A : Around} {E : Value → Shared → Prop} {s : Shared}
/-- an empty set, as set(..) begins -/
abbrev set0 (w : World) : Obj := { cls := .type "set", dict := none, data := .set #[] 0 (.fresh 0 0 (!w.params.followText "set-order")) }
/-- set(a tuple), by what its filling loop does -/
theorem set_by_loop {l : Addr} {items : Array Value} {Q : Value → Shared → Prop} (Good : Shared → Prop) (hl : s.heap.IsTuple l items)
    (loop : ∀ R : Result → Shared → Prop, (∀ s', Good s' → R (.ok (.ret .none)) s') → codeAny (model P w) A.in1.in1 (.builtin "set.update.loop" ⟨[.ref s.heap.objs.size, .ref (s.heap.push (set0 w)).objs.size], []⟩) R
      { s with heap := (s.heap.push (set0 w)).push { cls := .type "tuple_iterator", data := .fields #[.ref l, .int 0 0] } })
    (h : ∀ s', Good s' → Q (.ref s.heap.objs.size) s') : wpAny (model P w) A (call (.type "set") [.ref l]) Q E s := by
  obtain ⟨c, tl, hmro⟩ := F.called_set.mro
  have hmade := F.called_set.made
  have hsub := F.called_set.sub
  have h1 := F.called_set.notType
  have h2 := F.called_set.canCreate
  have hct := F.typeCall_set_1 (.ref l)
  refine wpAny_call (codeAny_of_tree ?_)
  show wpAny _ _ (callAny (.type "set") _) _ _ _
  refine wpAny_pure ⟨Code.quiet_builtin _ (by decide +kernel), codeAny_builtin F.entry_type_call ?_⟩
  rw [Around.under_plain (weight_type_call_type "set" [.ref l] []) rfl]
  repeat (any_goals (first | assumption | wp_step))
  refine codeAny_mono (code_set_led1 (.ref l) (E := E) (Q₁ := fun obj s₁ => obj = .ref s.heap.objs.size ∧ s₁ = { s with heap := s.heap.push (set0 w) }) ⟨rfl, rfl⟩) fun r s₁ hr => ?_
  match r, hr with
  | .error e, hr => exact hr
  | .ok (.ret obj), hr =>
    obtain ⟨rfl, rfl⟩ := hr
    have hS : (s.heap.push (set0 w)).get? s.heap.objs.size = some (set0 w) := Heap.get?_push_size _ rfl
    have hT : Shared.TypeIs { s with heap := s.heap.push (set0 w) } (.ref s.heap.objs.size) "set" := ⟨_, hS, rfl⟩
    have hli := F.called_set.init.lookup
    have hbi := F.called_set.init.bind (.ref s.heap.objs.size)
    repeat (any_goals (first | assumption | wp_step))
    refine codeAny_mono (codeAny_call_builtin (R := wants (fun r s₂ => r = .none ∧ Good s₂) E) F.called_set.init.plain F.entry_set_init (check_set_init_1 hT ?_)) fun r₂ s₂ hr₂ => ?_
    · obtain ⟨⟨ocls, odict, odata, oslots⟩, hol, hcl, nl, hdl⟩ := hl
      cases hcl
      cases hdl
      have hol' : (s.heap.push (set0 w)).get? l = some { cls := .type "tuple", dict := odict, data := .seq items nl, slots := oslots } := Heap.get?_push_of_some _ hol
      have n1 := F.sub_tuple_set
      have n2 := F.sub_tuple_frozenset
      have n3 : (Value.type "tuple" == Value.type "dict") = false := by decide
      unfold Builtin.«set.__init__» noKeywords Builtin.Frozenset.updateFrom
      generalize hPI : pyIter = PI
      wp_walk
      subst hPI
      refine wpAny_pyIter_tuple ⟨_, hol', rfl, nl, rfl⟩ (wpAny_bind (wpAny_runValue ?_))
      exact loop _ fun s' hg => wpAny_pure (wpAny_pure ⟨rfl, hg⟩)
    · match r₂, hr₂ with
      | .error e, hr₂ => exact hr₂
      | .ok (.ret r), hr₂ =>
        obtain ⟨rfl, hg⟩ := hr₂
        repeat (any_goals (first | assumption | wp_step))
        exact h _ hg
/-- set(a tuple of tuples of ints) -/
theorem set_tups {l : Addr} {items : Array Value} (ks : List (Addr × List Int)) {Q : Value → Shared → Prop} (hh : A.handled = none) (hl : s.heap.IsTuple l items) (hit : items.toList = ks.map fun p => Value.ref p.1)
    (hk : ∀ p ∈ ks, IsT P w s.heap p.2 p.1) (hfew : ks.length < 64) (hu : A.units + 3 < cLine)
    (h : ∀ (h' : Heap) (tk : Nat) L es ep t, SetTR P w h' s.heap.objs.size L es ep t → Got ks ks.length L → (∀ b o, s.heap.get? b = some o → h'.get? b = some o) → Q (.ref s.heap.objs.size) { s with heap := h', toks := tk }) :
    wpAny (model P w) A (call (.type "set") [.ref l]) Q E s := by
  have hsz : items.size = ks.length := by
    have := congrArg List.length hit
    rwa [Array.length_toList, List.length_map] at this
  have hlt : l < s.heap.objs.size := let ⟨_, e, _⟩ := hl; Heap.lt_size e
  have gone : ∀ b, s.heap.objs.size ≤ b → s.heap.get? b = none := fun b hb => by
    cases q : s.heap.get? b with
    | none => rfl
    | some o => exact absurd (Nat.lt_of_lt_of_le (Heap.lt_size q) hb) (Nat.lt_irrefl _)
  refine set_by_loop (fun s' => ∃ h' tk L es ep t, s' = { s with heap := h', toks := tk } ∧ SetTR P w h' s.heap.objs.size L es ep t ∧ Got ks ks.length L ∧ ∀ b o, s.heap.get? b = some o → h'.get? b = some o) hl (fun R hR => ?_) fun s' ⟨h', tk, L, es, ep, t, e, r, g, k⟩ => by
    subst e
    exact h h' tk L es ep t r g k
  have nI : l ≠ (s.heap.push (set0 w)).objs.size := by
    rw [Heap.size_push]
    exact Nat.ne_of_lt (Nat.lt_succ_of_lt hlt)
  have nS : s.heap.objs.size ∉ [(s.heap.push (set0 w)).objs.size, l] := by
    rw [Heap.size_push]
    simp only [List.mem_cons, List.not_mem_nil, or_false, not_or]
    exact ⟨Nat.ne_of_lt (Nat.lt_succ_self _), Nat.ne_of_gt hlt⟩
  have val : ∀ (i : Nat) (v : Value), items[i]? = some v → ∃ p, ks[i]? = some p ∧ v = .ref p.1 := fun i v hv => by
    have q : (ks.map fun p => Value.ref p.1)[i]? = some v := by rw [← hit, Array.getElem?_toList]; exact hv
    rw [List.getElem?_map] at q
    obtain ⟨p, hp, e⟩ := Option.map_eq_some_iff.mp q
    exact ⟨p, hp, e.symm⟩
  have hS : (s.heap.push (set0 w)).get? s.heap.objs.size = some (set0 w) := Heap.get?_push_size _ rfl
  refine set_update_tups ((Walks.tuple (A := A.in1.in1.in1) (by simp [hh]) _ l nI items).toS) s.heap.objs.size nS ks hsz hfew val s.heap hk (gone _ (Nat.le_refl _)) (fun b hb => gone b (by rw [List.mem_singleton.mp hb, Heap.size_push]; exact Nat.le_succ _)) hu items.size 0 _ (by omega) (Nat.zero_le _)
    ⟨⟨_, Heap.get?_push_size _ rfl, rfl, rfl⟩, hl.push _ |>.push _⟩ (fun b o e => Heap.get?_push_of_some _ (Heap.get?_push_of_some _ e)) ⟨[], #[], 0, _, setTR_fresh (Heap.get?_push_of_some _ hS), Got.zero ks⟩ ?_
  intro s' L es ep t hm r g k
  refine hR s' ?_
  obtain ⟨h', g2, d', tk, os'⟩ := s'
  cases (show g2 = s.gens from hm.gens)
  cases (show d' = s.drawn from hm.drawn)
  cases (show os' = s.os from hm.os)
  rw [hsz] at g
  exact ⟨h', tk, L, es, ep, t, rfl, r, g, k⟩
end
end L2

namespace Pf
open PySem PySem.Spec PyProof.Rows L2
section
variable {X : Cx} {E : XK} {a : Expr} {Fa : Rho → M Sv} {p p2 q pos : Pos}
/-- sorted(set(t)), t a tuple of tuples of d ints in [0, B) -/
def tSortSetP (K : PySem.W.Frag) (d : Nat) (B : Int) (ta : TE) : TE := fun σ H Q => ta σ H fun x H1 => ∃ (l : Addr) (ks : List (Addr × List Int)), x = .ref l ∧ SqT K H1 l (ks.map fun p => V.ref p.1) ∧ (∀ p ∈ ks, SqT K H1 p.1 (p.2.map V.int)) ∧ (∀ p ∈ ks, p.2.length = d ∧ TS.Bd B p.2) ∧ 1 ≤ d ∧ ks.length < 64 ∧
  ∀ (L : List (Addr × List Int)) (pa : Addr), (∀ p ∈ L, p ∈ ks) → (∀ p ∈ ks, p.2 ∈ L.map (·.2)) → (L.map (·.2)).Nodup → L.Pairwise (fun q r => TS.code B q.2 ≤ TS.code B r.2) → H1 pa = none → Q (.ref pa) (upd H1 pa (.lst (L.map fun q => V.ref q.1)))
theorem pe_sortSetP {ta : TE} {d : Nat} {B : Int} (hg : Gl X "sorted") (hm : X.mg "sorted" = none) (hg2 : Gl X "set") (hm2 : X.mg "set" = none) (ha : PE X a ta) (hc : X.calm = true) (hu : X.A.units + 64 < cLine)
    (na : starEach [a] X.env = (false, eval a X.env) :: starEach [] X.env) : PE X (.Call (.Name "sorted" p) [.Call (.Name "set" p2) [a] [] q] [] pos) (tSortSetP X.K d B ta) := by
  refine ⟨fun pins s σ H Q I h => ?_⟩
  refine Call_ (ld_blt I hg hm (by decide +kernel : bootBuiltins "sorted" = some (.builtin "sorted")) ?_)
  refine PyProof.Rows.callWith_builtin1 (PyProof.Rows.args_cons ?_ rfl) rfl rfl
  refine Call_ (ld_blt I hg2 hm2 boot_set ?_)
  refine PyProof.Rows.callWith_type1 (PyProof.Rows.args_cons (thn (ha.run pins s σ H _ I h) fun v s1 ⟨x, H1, I1, r1, q1⟩ => PyProof.Rows.args_nil ?_) na) na rfl
  obtain ⟨l, ks, rfl, hq, hk, hB, hd, hfew, q1⟩ := q1
  cases r1
  obtain ⟨its, r, pl, hz⟩ := I1.tuple hq
  refine set_tups (P := X.prog) (w := X.w) ks (I1.ok.hd hc) pl (by simpa using refs_of_vals r) (fun p hp => I1.isT (hk p hp)) hfew (by omega) fun h' tk L es ep t R g k => ?_
  refine PyProof.Rows.args_nil ?_
  have I2 : Inv X pins σ H1 { s1 with heap := h', toks := tk } := I1.kept k
  have sub : ∀ p ∈ L, p ∈ ks := fun p hp => List.mem_of_mem_take (g.sub p hp)
  refine sorted_setT (s := { s1 with heap := h', toks := tk }) R (I2.ok.hd hc) hd (fun p hp => hB p (sub p hp)) fun s' pa out c L' k2 g2 o hp hgt hout pm pw => ?_
  have hlen : (L'.map fun q => V.ref q.1).length ≤ sizeLine := by
    have := R.few
    rw [List.length_map, pm.length_eq, sizeLine_eq]
    omega
  have hn : H1 pa = none := I2.hok.fresh hp
  have hv : Vals (L'.map fun q => V.ref q.1) out.toList := by
    rw [hout]
    exact vals_of_refs L'
  have J : Inv X pins σ (upd H1 pa (.lst (L'.map fun q => V.ref q.1))) { { s1 with heap := h', toks := tk } with heap := s'.heap, gens := s'.gens, drawn := s'.drawn, toks := s'.toks } :=
    I2.call (ch := []) (Un.laid k2 hp hn) (I2.hok.laid k2 hp ⟨hlen, out.toList, c, hv, hgt⟩) (by rw [g2]; exact I2.bare) (fun _ z => nomatch z)
  have es' : s' = { { s1 with heap := h', toks := tk } with heap := s'.heap, gens := s'.gens, drawn := s'.drawn, toks := s'.toks } := by
    cases s'
    cases o
    rfl
  rw [es']
  refine ⟨.ref pa, _, J, rfl, q1 L' pa (fun p hp => sub p (pm.mem_iff.mp hp)) (fun p hp => ?_) ((pm.map (·.2)).nodup_iff.mpr R.nd) pw hn⟩
  exact (pm.map (·.2)).mem_iff.mpr (g.all p (by rw [List.take_length]; exact hp))
end
end Pf

namespace Pf
open PySem PySem.Spec PyProof.Rows L2
/-! ### the reading of sorted(set(t)): t a tuple of ints, or of pairs of ints in [0, 2^31) -/
def codeP (p : Int × Int) : Int := p.1 * 2147483648 + p.2
def decP (c : Int) : Int × Int := (c / 2147483648, c % 2147483648)
def inP (p : Int × Int) : Bool := decide (0 ≤ p.1) && decide (p.1 < 2147483648) && (decide (0 ≤ p.2) && decide (p.2 < 2147483648))
def sortPs (ps : List (Int × Int)) : List (Int × Int) := (sortL (dd (ps.map codeP))).map decP
theorem inP_iff {p : Int × Int} : inP p = true ↔ (0 ≤ p.1 ∧ p.1 < 2147483648) ∧ 0 ≤ p.2 ∧ p.2 < 2147483648 := by
  unfold inP
  simp only [Bool.and_eq_true, decide_eq_true_eq]
theorem dec_code {p : Int × Int} (h : inP p = true) : decP (codeP p) = p := by
  obtain ⟨⟨a, b⟩, c, d⟩ := inP_iff.mp h
  unfold decP codeP
  refine Prod.ext ?_ ?_
  · show (p.1 * 2147483648 + p.2) / 2147483648 = p.1
    omega
  · show (p.1 * 2147483648 + p.2) % 2147483648 = p.2
    omega
theorem code_two (x y : Int) : TS.code 2147483648 [x, y] = codeP (x, y) := by
  show x * 2147483648 ^ 1 + (y * 2147483648 ^ 0 + 0) = x * 2147483648 + y
  have e1 : (2147483648 : Int) ^ 1 = 2147483648 := by decide
  have e0 : (2147483648 : Int) ^ 0 = 1 := by decide
  rw [e1, e0, Int.mul_one, Int.add_zero]
theorem pairs_rel {K : PySem.W.Frag} {S : Hp} : ∀ {ps : List (Int × Int)} {vs : List V}, Dqs K S vs (ps.map encP) → ∃ ks : List (Addr × (Int × Int)), vs = ks.map (fun k => V.ref k.1) ∧ ks.map (·.2) = ps ∧ ∀ k ∈ ks, Dq K S (.ref k.1) (encP k.2) ∧ SqT K S k.1 [V.int k.2.1, V.int k.2.2]
  | [], _, .nil => ⟨[], rfl, rfl, fun _ z => nomatch z⟩
  | p :: ps, _, .cons h r => by
    obtain ⟨ks, e1, e2, e3⟩ := pairs_rel r
    have h0 := h
    cases h with
    | tup h1 r1 =>
      rename_i ad xs
      cases r1 with
      | cons a1 r2 =>
        cases r2 with
        | cons a2 r3 =>
          cases r3
          cases a1
          cases a2
          refine ⟨(ad, p) :: ks, by rw [e1]; rfl, by rw [List.map_cons, e2], fun k hk => ?_⟩
          rcases List.mem_cons.mp hk with rfl | hk
          · exact ⟨h0, h1⟩
          · exact e3 k hk
theorem sortPs_only {ps : List (Int × Int)} (hin : ∀ p ∈ ps, inP p = true) {ms : List (Int × Int)} (hs : ms.Pairwise fun a b => codeP a ≤ codeP b) (hn : ms.Nodup) (hm : ∀ p, p ∈ ms ↔ p ∈ ps) : ms = sortPs ps := by
  have inj : ∀ a ∈ ms, ∀ b ∈ ms, codeP a = codeP b → a = b := fun a ha b hb e => by
    rw [← dec_code (hin a ((hm a).mp ha)), ← dec_code (hin b ((hm b).mp hb)), e]
  have hlt : (ms.map codeP).Pairwise (· < ·) := by
    refine List.pairwise_map.mpr ?_
    have key : ∀ l : List (Int × Int), (∀ a ∈ l, a ∈ ms) → l.Pairwise (fun a b => codeP a ≤ codeP b) → l.Nodup → l.Pairwise fun a b => codeP a < codeP b := by
      intro l hl h1 h2
      induction h1 with
      | nil => exact List.Pairwise.nil
      | @cons a l h _ ih =>
        obtain ⟨n1, n2⟩ := List.nodup_cons.mp h2
        refine List.Pairwise.cons (fun b hb => ?_) (ih (fun x hx => hl x (List.mem_cons_of_mem _ hx)) n2)
        have h3 := h b hb
        have h4 : codeP a ≠ codeP b := fun z => n1 (by rw [inj a (hl a List.mem_cons_self) b (hl b (List.mem_cons_of_mem _ hb)) z]; exact hb)
        omega
    exact key ms (fun _ h => h) hs hn
  have e := dd_only (ns := ps.map codeP) hlt fun c => by
    rw [List.mem_map, List.mem_map]
    exact ⟨fun ⟨p, hp, e⟩ => ⟨p, (hm p).mp hp, e⟩, fun ⟨p, hp, e⟩ => ⟨p, (hm p).mpr hp, e⟩⟩
  unfold sortPs
  rw [← e, List.map_map]
  refine ((List.map_congr_left fun p hp => ?_).trans (List.map_id _)).symm
  exact dec_code (hin p ((hm p).mp hp))
noncomputable def sortSetM (ds : List PyData) : M Sv := match asInts ds with
  | some ns => if decide (ns.length < 60) = true then M.ret (.dat (.list ((sortL (dd ns)).map .int))) else M.fail
  | none => match asPairs ds with
    | some ps => if (decide (ps.length < 60) && ps.all inP) = true then M.ret (.dat (.list ((sortPs ps).map encP))) else M.fail
    | none => M.fail
noncomputable def bSortSet (ss : List Sv) : M Sv := match ss with
  | [s] => match s with
    | .dat (.tuple ds) => sortSetM ds
    | _ => M.fail
  | _ => M.fail
section
variable {X : Cx} {E : XK} {a : Expr} {Fa : Rho → M Sv} {p p2 q pos : Pos}
theorem x_sortSet (hu : X.A.units + 64 < cLine) (hm : X.mg "sorted" = none) (hm2 : X.mg "set" = none) (ha : PX X E a Fa) (hg : Gl X "sorted" := by rfl) (hg2 : Gl X "set" := by rfl) (hc : X.calm = true := by rfl)
    (na : starEach [a] X.env = (false, eval a X.env) :: starEach [] X.env := by rfl) : PX X E (.Call (.Name "sorted" p) [.Call (.Name "set" p2) [a] [] q] [] pos) (callV bSortSet (argC Fa argN)) := by
  refine ⟨fun pins s σ H Q I ⟨W, ρ, μ, r, h, e, q⟩ => ?_⟩
  have e' : M.bind (Fa ρ) (fun s => bSortSet [s]) μ = some r := by
    rw [← e]
    unfold callV argC
    rw [M.assoc]
    rfl
  rcases bind_some e' with ⟨sv, μ1, e1, e2⟩ | ⟨c, μ1, e1, rfl⟩
  · have nodat : (∃ ds, sv = .dat (.tuple ds)) := by
      cases sv with
      | dat d =>
        cases d with
        | tuple ds => exact ⟨ds, rfl⟩
        | _ => cases e2
      | _ => cases e2
    obtain ⟨ds, rfl⟩ := nodat
    have e3 : sortSetM ds μ1 = some r := e2
    cases en : asInts ds with
    | some ns =>
      unfold sortSetM at e3
      rw [en] at e3
      obtain ⟨c, e3⟩ := iff_ok e3
      cases e3
      have ed := asInts_eq en
      subst ed
      refine (pe_sortSet hg hm hg2 hm2 ha hc na).run pins s σ H Q I ⟨W, ρ, μ, _, h, e1, fun W1 H1 g R1 v rv => ?_⟩
      cases rv with
      | tup h1 r1 =>
        have ev := dqs_int r1
        subst ev
        refine ⟨_, ns, rfl, seqT_mono R1.sub h1, of_decide_eq_true c, fun pa hp => ?_⟩
        obtain ⟨W2, g2, R2, d2⟩ := lst_new R1 hp (dqs_ints (K := X.K) (H := W1.S) (sortL (dd ns)))
        exact q W2 _ (g.trans g2) R2 _ d2
    | none =>
      cases ep : asPairs ds with
      | none =>
        unfold sortSetM at e3
        rw [en] at e3
        dsimp only at e3
        rw [ep] at e3
        cases e3
      | some ps =>
        unfold sortSetM at e3
        rw [en] at e3
        dsimp only at e3
        rw [ep] at e3
        obtain ⟨c, e3⟩ := iff_ok e3
        cases e3
        obtain ⟨c1, c2⟩ := Bool.and_eq_true_iff.mp c
        have c1 := of_decide_eq_true c1
        have hin : ∀ p ∈ ps, inP p = true := List.all_eq_true.mp c2
        have ed := asPairs_eq ep
        subst ed
        refine (pe_sortSetP (d := 2) (B := 2147483648) hg hm hg2 hm2 ha hc hu na).run pins s σ H Q I ⟨W, ρ, μ, _, h, e1, fun W1 H1 g R1 v rv => ?_⟩
        cases rv with
        | tup h1 r1 =>
          obtain ⟨ks, ev, ek, er⟩ := pairs_rel r1
          subst ev
          subst ek
          have h1' := seqT_mono R1.sub h1
          refine ⟨_, ks.map fun k => (k.1, [k.2.1, k.2.2]), rfl, by rw [List.map_map]; exact h1', fun p hp => ?_, fun p hp => ?_, by decide, by rw [List.length_map] at c1 ⊢; omega, fun L pa hL hcov hnd hpw hpa => ?_⟩
          · obtain ⟨k, hk, rfl⟩ := List.mem_map.mp hp
            exact seqT_mono R1.sub (er k hk).2
          · obtain ⟨k, hk, rfl⟩ := List.mem_map.mp hp
            refine ⟨rfl, fun m hm => ?_⟩
            obtain ⟨⟨a1, a2⟩, a3, a4⟩ := inP_iff.mp (hin k.2 (List.mem_map.mpr ⟨k, hk, rfl⟩))
            rcases List.mem_cons.mp hm with rfl | hm
            · exact ⟨a1, a2⟩
            · rw [List.mem_singleton.mp hm]
              exact ⟨a3, a4⟩
          · -- what came out, by its pairs
            have back : ∃ M : List (Addr × (Int × Int)), L = M.map (fun k => (k.1, [k.2.1, k.2.2])) ∧ ∀ k ∈ M, k ∈ ks := by
              clear hcov hnd hpw
              induction L with
              | nil => exact ⟨[], rfl, fun _ z => nomatch z⟩
              | cons x l ih =>
                obtain ⟨M, e, hM⟩ := ih fun y hy => hL y (List.mem_cons_of_mem _ hy)
                obtain ⟨k, hk, ek⟩ := List.mem_map.mp (hL x List.mem_cons_self)
                refine ⟨k :: M, by rw [List.map_cons, ek, e], fun y hy => ?_⟩
                rcases List.mem_cons.mp hy with rfl | hy
                · exact hk
                · exact hM y hy
            obtain ⟨M, rfl, hM⟩ := back
            have two : ∀ p q : Int × Int, ([p.1, p.2] : List Int) = [q.1, q.2] → p = q := fun p q z => by
              injection z with z1 z2
              injection z2 with z2 _
              exact Prod.ext z1 z2
            have em : M.map (·.2) = sortPs (ks.map (·.2)) := by
              refine sortPs_only hin ?_ ?_ fun p => ⟨fun hp => ?_, fun hp => ?_⟩
              · rw [List.pairwise_map] at hpw ⊢
                refine hpw.imp ?_
                intro x y hxy
                have hxy' : TS.code 2147483648 [x.2.1, x.2.2] ≤ TS.code 2147483648 [y.2.1, y.2.2] := hxy
                rw [code_two, code_two] at hxy'
                exact hxy'
              · rw [List.map_map] at hnd
                have hnd' := List.pairwise_map.mp hnd
                refine List.pairwise_map.mpr (hnd'.imp ?_)
                intro x y hxy z
                exact hxy (by show [x.2.1, x.2.2] = [y.2.1, y.2.2]; rw [z])
              · obtain ⟨k, hk, rfl⟩ := List.mem_map.mp hp
                exact List.mem_map.mpr ⟨k, hM k hk, rfl⟩
              · obtain ⟨k, hk, rfl⟩ := List.mem_map.mp hp
                have := hcov (k.1, [k.2.1, k.2.2]) (List.mem_map.mpr ⟨k, hk, rfl⟩)
                rw [List.map_map] at this
                obtain ⟨m, hm', e⟩ := List.mem_map.mp this
                exact List.mem_map.mpr ⟨m, hm', two _ _ e⟩
            have dq : Dqs X.K W1.S (M.map fun k => V.ref k.1) ((sortPs (ks.map (·.2))).map encP) := by
              rw [← em, List.map_map]
              clear hcov hnd hpw em hL
              induction M with
              | nil => exact .nil
              | cons k M ih => exact .cons (er k (hM k List.mem_cons_self)).1 (ih fun y hy => hM y (List.mem_cons_of_mem _ hy))
            rw [List.map_map]
            obtain ⟨W2, g2, R2, d2⟩ := lst_new R1 hpa dq
            exact q W2 _ (g.trans g2) R2 _ d2
  · exact (pe_sortSet hg hm hg2 hm2 ha hc na).run pins s σ H Q I ⟨W, ρ, μ, _, h, e1, q⟩
end
end Pf

namespace Pf
open PySem PySem.Spec PyProof.Rows L2
noncomputable def oSortSet : PyData → Option PyData
  | .tuple ds => match asInts ds with
    | some ns => if decide (ns.length < 60) = true then some (.list ((sortL (dd ns)).map .int)) else none
    | none => match asPairs ds with
      | some ps => if (decide (ps.length < 60) && ps.all inP) = true then some (.list ((sortPs ps).map encP)) else none
      | none => none
  | _ => none
theorem bl_sortSet : Bl1 bSortSet oSortSet := fun a da d μ ra e => by
  cases da with
  | tuple ds =>
    rw [ra.nl rfl]
    show sortSetM ds μ = _
    unfold oSortSet at e
    dsimp only at e
    unfold sortSetM
    cases en : asInts ds with
    | some ns =>
      rw [en] at e
      dsimp only at e ⊢
      by_cases c : decide (ns.length < 60) = true
      · rw [if_pos c] at e ⊢
        cases e
        rfl
      · rw [if_neg c] at e
        cases e
    | none =>
      rw [en] at e
      dsimp only at e ⊢
      cases ep : asPairs ds with
      | none =>
        rw [ep] at e
        cases e
      | some ps =>
        rw [ep] at e
        dsimp only at e ⊢
        by_cases c : (decide (ps.length < 60) && ps.all inP) = true
        · rw [if_pos c] at e ⊢
          cases e
          rfl
        · rw [if_neg c] at e
          cases e
  | _ => cases e
end Pf

set_option maxHeartbeats 1000000
namespace Pf
open PySem PySem.Spec PyProof.Rows L2
/-! ### sorted(set(..)) of what is sorted -/
theorem sortSet_marks {ms : List Nat} (up : ms.Pairwise (· < ·)) (hl : ms.length < 60) : oSortSet (marksD ms) = some (.list (ms.map mkD)) := by
  have e : sortL (dd (intsN ms)) = intsN ms := (dd_only (ms := intsN ms) (List.pairwise_map.mpr (up.imp fun {a b} h => by omega)) fun k => Iff.rfl).symm
  have ei : asInts ((intsN ms).map PyData.int) = some (intsN ms) := asInts_m _
  unfold marksD
  rw [intsN_D]
  unfold oSortSet
  dsimp only
  rw [ei]
  dsimp only
  rw [if_pos (decide_eq_true (by unfold intsN; rw [List.length_map]; exact hl)), e]
theorem asPairs_m : ∀ ps : List (Int × Int), asPairs (ps.map rowD) = some ps
  | [] => rfl
  | p :: ps => by
    show (asPairs (ps.map rowD)).map (p :: ·) = _
    rw [asPairs_m ps]
    rfl
theorem sortSet_pairs {ps : List (Int × Int)} (ne : ps ≠ []) (hin : ∀ p ∈ ps, inP p = true) (up : ps.Pairwise fun a b => a.1 < b.1) (hl : ps.length < 60) : oSortSet (treeD ps) = some (.list (ps.map rowD)) := by
  have e : sortPs ps = ps := (sortPs_only (ps := ps) hin (List.Pairwise.imp_of_mem (fun {a b} ha hb h => by
    have h1 := inP_iff.mp (hin a ha)
    have h2 := inP_iff.mp (hin b hb)
    unfold codeP
    omega) up) (up.imp fun {a b} h z => by rw [z] at h; omega) fun p => Iff.rfl).symm
  have en : asInts (ps.map rowD) = none := by
    cases ps with
    | nil => exact absurd rfl ne
    | cons p r => rfl
  have ep := asPairs_m ps
  unfold treeD oSortSet
  dsimp only
  rw [en]
  dsimp only
  rw [ep]
  dsimp only
  rw [if_pos (by rw [decide_eq_true hl, Bool.true_and]; exact List.all_eq_true.mpr hin), e]
  rfl
theorem Cln.mark (m : Nat) : Cln (mkD m) 0 := Cln.int _
theorem Cln.marks (ms : List Nat) : Cln (marksD ms) 1 := Cln.tuple fun d hd => by
  obtain ⟨m, _, rfl⟩ := List.mem_map.mp hd
  exact Cln.int _
theorem Cln.marksL (ms : List Nat) : Cln (.list (ms.map mkD)) 1 := Cln.list fun d hd => by
  obtain ⟨m, _, rfl⟩ := List.mem_map.mp hd
  exact Cln.int _
theorem Cln.rowC (p : Int × Int) : Cln (rowD p) 1 := Cln.tuple fun d hd => by
  simp only [List.mem_cons, List.not_mem_nil, or_false] at hd
  rcases hd with rfl | rfl <;> exact Cln.int _
theorem Cln.rowsL (ps : List (Int × Int)) : Cln (.list (ps.map rowD)) 2 := Cln.list fun d hd => by
  obtain ⟨m, _, rfl⟩ := List.mem_map.mp hd
  exact Cln.rowC _
theorem cEq_none {ms : List Nat} (h : ms ≠ []) : cEq (marksD ms) (.tuple []) = some false := by
  have ne : marksD ms ≠ marksD [] := fun z => by
    unfold marksD at z
    injection z with z
    exact absurd (List.map_eq_nil_iff.mp z) h
  exact cEqn_cln (n := false) (Cln.marks ms) (Cln.marks []) (by decide) (b := false) ⟨fun z => (nomatch z), fun z => absurd z ne⟩
/-! ### the result -/
def fewPs (rows : List (Int × Int)) (ws : List (Int × Option Int)) (tops : List Nat) : List (Int × Int) := tops.map fun k => (((k : Nat) : Int), lowI rows ws k)
def fewD (rows : List (Int × Int)) (ws : List (Int × Option Int)) (tops marks : List Nat) : PyData := .tuple [treeD (fewPs rows ws tops), marksD marks]
theorem few_D {rows : List (Int × Int)} {ws : List (Int × Option Int)} {tops marks : List Nat} : PyData.tuple [.tuple (tops.map fun k => .tuple [mkD k, .int (lowI rows ws k)]), marksD marks] = fewD rows ws tops marks := by
  unfold fewD fewPs treeD
  rw [List.map_map]
  rfl
theorem up_len {N : Nat} {ms : List Nat} (up : ms.Pairwise (· < ·)) (h : ∀ m ∈ ms, m ≤ N) : ms.length ≤ N + 1 := by
  have hs : ms ⊆ List.range (N + 1) := fun m hm => List.mem_range.mpr (by have := h m hm; omega)
  have nd : ms.Nodup := up.imp fun {a b} h => Nat.ne_of_lt h
  have := nd.length_le_of_subset hs
  rwa [List.length_range] at this
section
variable {rows : List (Int × Int)} (g : TreeG rows) {ws : List (Int × Option Int)} (hw : ws.length = rows.length + 1) (hc : ∀ w ∈ ws, WinC w)
include g hw hc
theorem low_bdC {m : Nat} (hm : m ≤ rows.length) : 0 ≤ lowI rows ws m ∧ lowI rows ws m ≤ 100000000 := by
  have h1 := low_self g.ok hw hm
  have h2 := low_le g.ok hw hm (top := 100000000) fun w hw' => (hc w hw').lo.2
  have h3 := (hc _ (List.mem_of_getElem? (wAt_get (show m < ws.length by omega)))).lo.1
  omega
theorem few_fits {tops marks : List Nat} (few : FewOk rows ws tops marks) : fitsB ws (fallsL (dist rows) (fewPs rows ws tops) (rows.length + 1)) = true := by
  refine List.all_eq_true.mpr fun m hm => ?_
  have hm : m ≤ rows.length := by
    have := List.mem_range.mp hm
    omega
  have hne : (fewPs rows ws tops).map (fun p => p.2 + dist rows p.1.toNat m) ≠ [] := fun z => by
    have := List.map_eq_nil_iff.mp z
    unfold fewPs at this
    exact few.ne (List.map_eq_nil_iff.mp this)
  obtain ⟨a1, a2⟩ := minL_spec hne
  have lo : (wAt ws m).1 ≤ minL ((fewPs rows ws tops).map fun p => p.2 + dist rows p.1.toNat m) := by
    obtain ⟨p, hp, e⟩ := List.mem_map.mp a1
    unfold fewPs at hp
    obtain ⟨k, hk, rfl⟩ := List.mem_map.mp hp
    have h1 := low_self g.ok hw hm
    have h2 := low_lip g hw m k hm (few.le k hk)
    have e' : lowI rows ws k + dist rows k m = minL ((fewPs rows ws tops).map fun p => p.2 + dist rows p.1.toNat m) := by
      rw [← e]
      show _ = lowI rows ws k + dist rows ((k : Nat) : Int).toNat m
      rw [show ((k : Nat) : Int).toNat = k by omega]
    omega
  unfold withinB
  rw [falls_at _ _ (show m < rows.length + 1 by omega), decide_eq_true lo, Bool.true_and]
  cases e : (wAt ws m).2 with
  | none => rfl
  | some l =>
    refine decide_eq_true ?_
    obtain ⟨c, hc', hp⟩ := few.hit m hm
    have h1 := ((part_iff g hw).mp hp).2 l e
    have h2 := a2 (lowI rows ws c + dist rows c m) (List.mem_map.mpr ⟨(((c : Nat) : Int), lowI rows ws c), List.mem_map.mpr ⟨c, hc', rfl⟩, by
      show lowI rows ws c + dist rows ((c : Nat) : Int).toNat m = _
      rw [show ((c : Nat) : Int).toNat = c by omega]⟩)
    omega
theorem few_apart {tops marks : List Nat} (few : FewOk rows ws tops marks) : apartB rows ws marks = true := by
  refine apart_true ?_
  unfold flatL
  have key : ∀ l : List Nat, (∀ m ∈ l, m ∈ marks) → l.Pairwise (· < ·) → (l.flatMap (partL rows ws)).Nodup := by
    intro l hl up
    induction up with
    | nil => exact List.nodup_nil
    | @cons a l h _ ih =>
      rw [List.flatMap_cons]
      refine List.nodup_append.mpr ⟨(part_sorted g hw a).imp fun {x y} h => Nat.ne_of_lt h, ih fun m hm => hl m (List.mem_cons_of_mem _ hm), fun x hx y hy z => ?_⟩
      subst z
      obtain ⟨b, hb, hxb⟩ := List.mem_flatMap.mp hy
      exact few.apart a (hl a List.mem_cons_self) b (hl b (List.mem_cons_of_mem _ hb)) (Nat.ne_of_lt (h b hb)) x ⟨hx, hxb⟩
  exact key marks (fun _ h => h) few.upM
theorem few_push {tops marks : List Nat} (few : FewOk rows ws tops marks) : PushOk rows 100000000 (fewPs rows ws tops) := ⟨fun p hp => by
  unfold fewPs at hp
  obtain ⟨k, hk, rfl⟩ := List.mem_map.mp hp
  have h1 := few.le k hk
  have h2 := low_bdC g hw hc h1
  exact ⟨⟨by show (0 : Int) ≤ (k : Int); omega, by show (k : Int) ≤ _; omega⟩, h2.1, h2.2⟩⟩
theorem fine_few {tops marks : List Nat} (few : FewOk rows ws tops marks) (hg : rows.length ≤ 11) : Fine (fewD rows ws tops marks) 4100 3 := by
  have lt := up_len few.up few.le
  have lm := up_len few.upM few.leM
  have f1 : Fine (treeD (fewPs rows ws tops)) 2000 2 := by
    refine (Fine.tuple (n := 150) (k := 1) fun d hd => ?_).up ?_ (Nat.le_refl _)
    · obtain ⟨p, hp, rfl⟩ := List.mem_map.mp hd
      obtain ⟨⟨a, b⟩, c, e⟩ := (few_push g hw hc few).ok p hp
      exact (Fine.tuple (n := 44) (k := 0) fun d hd => by
        simp only [List.mem_cons, List.not_mem_nil, or_false] at hd
        rcases hd with rfl | rfl <;> exact fine_int (by omega)).up (by simp only [List.length_cons, List.length_nil]; omega) (Nat.le_refl _)
    · rw [List.length_map]
      unfold fewPs
      rw [List.length_map]
      omega
  have f2 : Fine (marksD marks) 600 1 := fine_marks (by omega) fun m hm => by
    have := few.leM m hm
    omega
  refine (Fine.tuple (n := 2000) (k := 2) fun d hd => ?_).up (by simp only [List.length_cons, List.length_nil]; omega) (Nat.le_refl _)
  simp only [List.mem_cons, List.not_mem_nil, or_false] at hd
  rcases hd with rfl | rfl
  · exact f1
  · exact f2.up (by decide) (by decide)
end
end Pf

set_option maxHeartbeats 1000000
namespace Pf
open PySem PySem.Spec PyProof.Rows L2
noncomputable def T__law_right (a0 a1 a2 : PyData) : S PyData :=
  ((((((S.ret a2).bind fun x1 => S.lift (oIsi "tuple" x1)).bind fun x2 => S.lift (toB x2)).bind fun z3 => S.ret (!z3)).bind fun z7 => bOr z7 (((S.ret a2).bind fun x4 => S.lift (oLen x4)).bind fun x5 => (S.ret (PyData.int 2)).bind fun x6 => S.lift (cNe x5 x6))).bind fun z8 => if z8 = true then (S.ret (PyData.bool false)) else
  (((S.ret a2).bind fun d9 => ((S.lift (un2 d9)).bind fun p10 => (S.ret p10.1).bind fun s11 => (S.ret p10.2).bind fun s13 => S.ret (s11, s13))).bind fun v15 =>
  ((((((S.ret v15.1).bind fun x16 => S.lift (oIsi "tuple" x16)).bind fun x17 => S.lift (toB x17)).bind fun z18 => S.ret (!z18)).bind fun z22 => bOr z22 ((((S.ret v15.2).bind fun x19 => S.lift (oIsi "tuple" x19)).bind fun x20 => S.lift (toB x20)).bind fun z21 => S.ret (!z21))).bind fun z23 => if z23 = true then (S.ret (PyData.bool false)) else
  (((((S.ret v15.1).bind fun x24 => S.lift (oLen x24)).bind fun x26 => ((S.ret v15.2).bind fun x25 => S.lift (oLen x25)).bind fun x27 => S.lift (cNe x26 x27)).bind fun z31 => bOr z31 ((S.ret v15.2).bind fun x29 => ((S.ret []).bind fun as28 => S.ret (PyData.tuple as28)).bind fun x30 => S.lift (cEq x29 x30))).bind fun z32 => if z32 = true then (S.ret (PyData.bool false)) else
  (((((S.ret v15.1).bind fun x33 => S.lift (oList x33)).bind fun x35 => ((S.ret v15.1).bind fun x34 => S.lift (oSortSet x34)).bind fun x36 => S.lift (cNe x35 x36)).bind fun z41 => bOr z41 (((S.ret v15.2).bind fun x37 => S.lift (oList x37)).bind fun x39 => ((S.ret v15.2).bind fun x38 => S.lift (oSortSet x38)).bind fun x40 => S.lift (cNe x39 x40))).bind fun z42 => if z42 = true then (S.ret (PyData.bool false)) else
  ((((S.ret a0).bind fun x47 => ((S.ret a1).bind fun x45 => ((S.ret v15.2).bind fun x43 => (S.ret []).bind fun as44 => S.ret (x43 :: as44)).bind fun as46 => S.ret (x45 :: as46)).bind fun as48 => S.ret (x47 :: as48)).bind (u3 T__law_apart)).bind fun x57 => (S.lift (toB x57)).bind fun z58 => dAnd z58 (((S.ret a1).bind fun x55 => ((((S.ret a0).bind fun x51 => ((S.ret v15.1).bind fun x49 => (S.ret []).bind fun as50 => S.ret (x49 :: as50)).bind fun as52 => S.ret (x51 :: as52)).bind (u2 T__law_falls)).bind fun x53 => (S.ret []).bind fun as54 => S.ret (x53 :: as54)).bind fun as56 => S.ret (x55 :: as56)).bind (u2 T__law_fits))))))))
noncomputable abbrev F__law_right : List Sv → M Sv := liftF (u3 T__law_right)
noncomputable def G__law_right : Rho → M Out :=
  (gSeq (gIf (orT (notT (tst (isiV "tuple" (slot 2)))) (tst (bin pNe (callV bLen (argC (slot 2) argN)) (con (.int 2)))))
  (gRet (con (.bool false)))
  gSkip)
  (gSeq (gAsg (slot 2) (gTp 2 (gsCons (gNm 3) (gsCons (gNm 4) gsNil))))
  (gSeq (gIf (orT (notT (tst (isiV "tuple" (slot 3)))) (notT (tst (isiV "tuple" (slot 4)))))
  (gRet (con (.bool false)))
  gSkip)
  (gSeq (gIf (orT (tst (bin pNe (callV bLen (argC (slot 3) argN)) (callV bLen (argC (slot 4) argN)))) (tst (bin pEq (slot 4) (tupV argN))))
  (gRet (con (.bool false)))
  gSkip)
  (gSeq (gIf (orT (tst (bin pNe (callV (bList false) (argC (slot 3) argN)) (callV bSortSet (argC (slot 3) argN)))) (tst (bin pNe (callV (bList false) (argC (slot 4) argN)) (callV bSortSet (argC (slot 4) argN)))))
  (gRet (con (.bool false)))
  gSkip)
  (gRet (andV (callF F__law_apart 3 (argC (slot 0) (argC (slot 1) (argC (slot 4) argN)))) (callF F__law_fits 2 (argC (slot 1) (argC (callF F__law_falls 2 (argC (slot 0) (argC (slot 3) argN))) argN))))))))))
theorem tt__law_right (a0 a1 a2 : PyData) : Jd [some (.im a0), some (.im a1), some (.im a2), none, none] G__law_right (T__law_right a0 a1 a2) pR := by
  unfold T__law_right G__law_right
  exact (r_ifR (u_or (u_not (u_val (e_isi "tuple" (e_slot 2 rfl)))) (u_bin op_eqn' (e_bl1 bl_len (e_w (e_slot 2 rfl))) (e_w (e_con (PyData.int 2))))) (r_ret (e_con (PyData.bool false)))
  (r_seq (s_asg' (u := fun d9 => ((S.lift (un2 d9)).bind fun p10 => (S.ret p10.1).bind fun s11 => (S.ret p10.2).bind fun s13 => S.ret (s11, s13))) (e' := fun (s : ((PyData) × (PyData))) => [some (.im a0), some (.im a1), some (.im a2), some (.im s.1), some (.im s.2)]) (e_slot 2 rfl) fun d9 => (tg_tp2 (e1 := fun (s11 : PyData) => [some (.im a0), some (.im a1), some (.im a2), some (.im s11), none]) (e2 := fun (s11 : PyData) (s13 : PyData) => [some (.im a0), some (.im a1), some (.im a2), some (.im s11), some (.im s13)]) (u1 := fun d12 => (S.ret d12)) (u2 := fun d14 => (S.ret d14)) d9 (fun d12 => (tg_nm 3 d12)) (fun s11 d14 => (tg_nm 4 d14)))) fun v15 =>
  (r_ifR (u_or (u_not (u_val (e_isi "tuple" (e_slot 3 rfl)))) (u_not (u_val (e_isi "tuple" (e_slot 4 rfl))))) (r_ret (e_con (PyData.bool false)))
  (r_ifR (u_or (u_bin op_eqn' (e_bl1 bl_len (e_w (e_slot 3 rfl))) (e_w (e_bl1 bl_len (e_w (e_slot 4 rfl))))) (u_bin op_eqn' (e_slot 4 rfl) (e_w (e_tup a_nil')))) (r_ret (e_con (PyData.bool false)))
  (r_ifR (u_or (u_bin op_eqn' (e_bl1 bl_list (e_w (e_slot 3 rfl))) (e_w (e_bl1 bl_sortSet (e_w (e_slot 3 rfl))))) (u_bin op_eqn' (e_bl1 bl_list (e_w (e_slot 4 rfl))) (e_w (e_bl1 bl_sortSet (e_w (e_slot 4 rfl)))))) (r_ret (e_con (PyData.bool false)))
  (r_ret (e_and (e_call (a_cons' (e_slot 0 rfl) (a_cons' (e_slot 1 rfl) (a_cons' (e_slot 4 rfl) a_nil')))) (e_call (a_cons' (e_slot 1 rfl) (a_cons' (e_call (a_cons' (e_slot 0 rfl) (a_cons' (e_slot 3 rfl) a_nil'))) a_nil'))))))))))
theorem same__law_right (ss : List Sv) (μ : Mu) (r : Res Sv) (hs : ss.length = 3) (wf : Wf μ) (e : F__law_right ss μ = some r) : ∃ r', G__law_right (ini 5 ss) μ = some r' ∧ Agree μ.length r r' :=
  same_T (n := 3) (fun ds h => by
    obtain ⟨a0, a1, a2, rfl⟩ := len3 h
    exact r_e (tt__law_right a0 a1 a2)) ss μ r hs wf e
noncomputable def R_law : Rho → M Out :=
  (gSeq (gFor (rngV (con (.int 12))) (gNm 2)
  (gSeq (gSet 3 (callF F__law_tree 3 (argC (slot 1) (argC (con (.int 12)) (argC (bin pIx (lstV false (argC (con (.int 9)) (argC (bin pPow (con (.int 10)) (con (.int 6))) argN))) (bin pMod (slot 2) (con (.int 2)))) argN)))))
  (gSeq (gSet 4 (callF F__law_windows 3 (argC (slot 1) (argC (slot 3) (argC (bin pIx (lstV false (argC (con (.int 12)) (argC (bin pPow (con (.int 10)) (con (.int 6))) argN))) (bin pMod (slot 2) (con (.int 2)))) argN)))))
  (gSeq (gPar 6 7 (argC (callV bRepr (argC (lstV false (argC (slot 3) (argC (slot 4) argN))) argN)) (argC (callF F__law_pair 2 (argC (slot 3) (argC (slot 4) argN))) argN)))
  (gSeq (gSet 5 (lcV false [8] (rngV (con (.int 2))) (gNm 8) yes (toldV "NoTable" "table" (callF F_fewest_pushes 2 (argC (slot 3) (argC (slot 4) argN))))))
  (gSeq (gIf (orT (tst (bin pNe (callV bRepr (argC (bin pIx (slot 5) (con (.int 0))) argN)) (callV bRepr (argC (bin pIx (slot 5) (con (.int 1))) argN)))) (tst (bin pNe (callV bRepr (argC (lstV false (argC (slot 3) (argC (slot 4) argN))) argN)) (slot 6))))
  (gRet (con (.bool false)))
  gSkip)
  (gIf (tst (bin (pIs true) (slot 7) (con .none)))
  (gIf (tst (bin pNe (callV bRepr (argC (bin pIx (slot 5) (con (.int 0))) argN)) (callV bRepr (argC (lstV false (argC (con (.str "table")) (argC (slot 7) argN))) argN))))
  (gRet (con (.bool false)))
  gSkip)
  (gIf (orT (tst (bin pNe (bin pIx (bin pIx (slot 5) (con (.int 0))) (con (.int 0))) (con (.str "result")))) (notT (tst (callF F__law_right 3 (argC (slot 3) (argC (slot 4) (argC (bin pIx (bin pIx (slot 5) (con (.int 0))) (con (.int 1))) argN)))))))
  (gRet (con (.bool false)))
  gSkip))))))))
  (gRet (con (.bool true))))
noncomputable def T_law : S PyData :=
  ((((S.ret (PyData.int 12)).bind fun x1 => S.lift (rngD x1)).bind fun ds5 => S.foldF (fun (s2 : PUnit) d3 => (S.ret d3).bind fun t4 => ((((S.ret (PyData.int 12)).bind fun x19 => (((((S.ret (PyData.int 9)).bind fun x10 => (((S.ret (PyData.int 10)).bind fun x6 => (S.ret (PyData.int 6)).bind fun x7 => S.lift (oPow x6 x7)).bind fun x8 => (S.ret []).bind fun as9 => S.ret (x8 :: as9)).bind fun as11 => S.ret (x10 :: as11)).bind fun as12 => S.ret (PyData.list as12)).bind fun x15 => ((S.ret t4).bind fun x13 => (S.ret (PyData.int 2)).bind fun x14 => S.lift (oMod x13 x14)).bind fun x16 => S.lift (oIx x15 x16)).bind fun x17 => (S.ret []).bind fun as18 => S.ret (x17 :: as18)).bind fun as20 => S.ret (x19 :: as20)).bind (u2 T__law_tree)).bind fun v21 =>
  ((((S.ret v21).bind fun x35 => (((((S.ret (PyData.int 12)).bind fun x26 => (((S.ret (PyData.int 10)).bind fun x22 => (S.ret (PyData.int 6)).bind fun x23 => S.lift (oPow x22 x23)).bind fun x24 => (S.ret []).bind fun as25 => S.ret (x24 :: as25)).bind fun as27 => S.ret (x26 :: as27)).bind fun as28 => S.ret (PyData.list as28)).bind fun x31 => ((S.ret t4).bind fun x29 => (S.ret (PyData.int 2)).bind fun x30 => S.lift (oMod x29 x30)).bind fun x32 => S.lift (oIx x31 x32)).bind fun x33 => (S.ret []).bind fun as34 => S.ret (x33 :: as34)).bind fun as36 => S.ret (x35 :: as36)).bind (u2 T__law_windows)).bind fun v37 =>
  ((((((S.ret v21).bind fun x40 => ((S.ret v37).bind fun x38 => (S.ret []).bind fun as39 => S.ret (x38 :: as39)).bind fun as41 => S.ret (x40 :: as41)).bind fun as42 => S.ret (PyData.list as42)).bind fun x43 => S.lift (oRepr x43)).bind fun x48 => (((S.ret v21).bind fun x46 => ((S.ret v37).bind fun x44 => (S.ret []).bind fun as45 => S.ret (x44 :: as45)).bind fun as47 => S.ret (x46 :: as47)).bind (u2 T__law_pair)).bind fun x49 => S.ret (x48, x49)).bind fun v50 =>
  ((((S.ret (PyData.int 2)).bind fun x51 => S.lift (rngD x51)).bind fun ds54 => (S.lift (szD ds54)).bind fun _ => (S.mapM (fun d52 => S.noEx ((S.ret d52).bind fun s53 => (S.told "NoTable" "table" (((S.ret v21).bind fun x58 => ((S.ret v37).bind fun x56 => (S.ret []).bind fun as57 => S.ret (x56 :: as57)).bind fun as59 => S.ret (x58 :: as59)).bind (u2 T_fewest_pushes))))) ds54).bind fun xs55 => S.ret (PyData.list xs55)).bind fun v60 =>
  ((((((S.ret v60).bind fun x61 => (S.ret (PyData.int 0)).bind fun x62 => S.lift (oIx x61 x62)).bind fun x63 => S.lift (oRepr x63)).bind fun x67 => (((S.ret v60).bind fun x64 => (S.ret (PyData.int 1)).bind fun x65 => S.lift (oIx x64 x65)).bind fun x66 => S.lift (oRepr x66)).bind fun x68 => S.lift (cNe x67 x68)).bind fun z77 => bOr z77 (((((S.ret v21).bind fun x71 => ((S.ret v37).bind fun x69 => (S.ret []).bind fun as70 => S.ret (x69 :: as70)).bind fun as72 => S.ret (x71 :: as72)).bind fun as73 => S.ret (PyData.list as73)).bind fun x74 => S.lift (oRepr x74)).bind fun x75 => (S.ret v50.1).bind fun x76 => S.lift (cNe x75 x76))).bind fun z78 => if z78 = true then ((S.ret (PyData.bool false)).bind fun x79 => S.ret (.rt x79)) else
  (((S.ret v50.2).bind fun x80 => (S.ret PyData.none).bind fun x81 => S.lift (cIs true x80 x81)).bind fun z82 => if z82 = true then (((((S.ret v60).bind fun x83 => (S.ret (PyData.int 0)).bind fun x84 => S.lift (oIx x83 x84)).bind fun x85 => S.lift (oRepr x85)).bind fun x92 => ((((S.ret (PyData.str "table")).bind fun x88 => ((S.ret v50.2).bind fun x86 => (S.ret []).bind fun as87 => S.ret (x86 :: as87)).bind fun as89 => S.ret (x88 :: as89)).bind fun as90 => S.ret (PyData.list as90)).bind fun x91 => S.lift (oRepr x91)).bind fun x93 => S.lift (cNe x92 x93)).bind fun z94 => if z94 = true then ((S.ret (PyData.bool false)).bind fun x95 => S.ret (.rt x95)) else (S.ret (.nx PUnit.unit))) else ((((((S.ret v60).bind fun x96 => (S.ret (PyData.int 0)).bind fun x97 => S.lift (oIx x96 x97)).bind fun x98 => (S.ret (PyData.int 0)).bind fun x99 => S.lift (oIx x98 x99)).bind fun x100 => (S.ret (PyData.str "result")).bind fun x101 => S.lift (cNe x100 x101)).bind fun z114 => bOr z114 (((((S.ret v21).bind fun x110 => ((S.ret v37).bind fun x108 => ((((S.ret v60).bind fun x102 => (S.ret (PyData.int 0)).bind fun x103 => S.lift (oIx x102 x103)).bind fun x104 => (S.ret (PyData.int 1)).bind fun x105 => S.lift (oIx x104 x105)).bind fun x106 => (S.ret []).bind fun as107 => S.ret (x106 :: as107)).bind fun as109 => S.ret (x108 :: as109)).bind fun as111 => S.ret (x110 :: as111)).bind (u3 T__law_right)).bind fun x112 => S.lift (toB x112)).bind fun z113 => S.ret (!z113))).bind fun z115 => if z115 = true then ((S.ret (PyData.bool false)).bind fun x116 => S.ret (.rt x116)) else (S.ret (.nx PUnit.unit)))))))))) ds5 PUnit.unit).bind fun o117 => flR o117 fun (s118 : PUnit) =>
  (S.ret (PyData.bool true)))
theorem tt_law : Jd [none, some .dk, none, none, none, none, none, none, none] R_law T_law pR := by
  unfold T_law R_law
  exact (r_flow (s_forF (h := fun (s : PUnit) => [none, some .dk, none, none, none, none, none, none, none]) PUnit.unit (w_rng (e_con (PyData.int 12))) (.drop (.keep (.drop (.drop (.drop (.drop (.drop (.drop (.drop .nil))))))))) (fun s2 d3 => b_tgF (u := fun d3 => (S.ret d3)) (e' := fun (t : PyData) => [none, some .dk, some (.im t), none, none, none, none, none, none]) d3 (tg_nm 2 d3) fun t4 => (f_seq (s_setI 3 (e_callD 1 rfl (a_cons' (e_con (PyData.int 12)) (a_cons' (e_bin op_ix' (e_lst (a_cons' (e_con (PyData.int 9)) (a_cons' (e_bin op_pow' (e_con (PyData.int 10)) (e_w (e_con (PyData.int 6)))) a_nil'))) (e_w (e_bin op_mod' (e_slot 2 rfl) (e_w (e_con (PyData.int 2)))))) a_nil')))) fun v21 =>
  (f_seq (s_setI 4 (e_callD 1 rfl (a_cons' (e_slot 3 rfl) (a_cons' (e_bin op_ix' (e_lst (a_cons' (e_con (PyData.int 12)) (a_cons' (e_bin op_pow' (e_con (PyData.int 10)) (e_w (e_con (PyData.int 6)))) a_nil'))) (e_w (e_bin op_mod' (e_slot 2 rfl) (e_w (e_con (PyData.int 2)))))) a_nil')))) fun v37 =>
  (f_seq (s_par' 6 7 (e_bl1 bl_repr (e_w (e_lst (a_cons' (e_slot 3 rfl) (a_cons' (e_slot 4 rfl) a_nil'))))) (e_call (a_cons' (e_slot 3 rfl) (a_cons' (e_slot 4 rfl) a_nil')))) fun v50 =>
  (f_seq (s_setI 5 (e_lc (u := fun d52 => (S.ret d52)) (e' := fun (s : PyData) => [none, some .dk, some (.im t4), some (.im v21), some (.im v37), none, some (.im v50.1), some (.im v50.2), some (.im s)]) [8] (w_rng (e_con (PyData.int 2))) rfl (fun d52 => (tc_nm 8 d52 rfl)) (fun s53 => (e_told (e_call (a_cons' (e_slot 3 rfl) (a_cons' (e_slot 4 rfl) a_nil'))))))) fun v60 =>
  (f_if (u_or (u_bin op_eqn' (e_bl1 bl_repr (e_w (e_bin op_ix' (e_slot 5 rfl) (e_w (e_con (PyData.int 0)))))) (e_w (e_bl1 bl_repr (e_w (e_bin op_ix' (e_slot 5 rfl) (e_w (e_con (PyData.int 1)))))))) (u_bin op_eqn' (e_bl1 bl_repr (e_w (e_lst (a_cons' (e_slot 3 rfl) (a_cons' (e_slot 4 rfl) a_nil'))))) (e_w (e_slot 6 rfl)))) (f_ret (e_con (PyData.bool false)))
  (q_if (u_bin op_is' (e_slot 7 rfl) (e_w (e_con PyData.none))) (q_if (u_bin op_eqn' (e_bl1 bl_repr (e_w (e_bin op_ix' (e_slot 5 rfl) (e_w (e_con (PyData.int 0)))))) (e_w (e_bl1 bl_repr (e_w (e_lst (a_cons' (e_con (PyData.str "table")) (a_cons' (e_slot 7 rfl) a_nil'))))))) (f_ret (e_con (PyData.bool false))) (f_skip PUnit.unit (.drop (.keep (.drop (.drop (.drop (.drop (.drop (.drop (.drop .nil))))))))))) (q_if (u_or (u_bin op_eqn' (e_bin op_ix' (e_bin op_ix' (e_slot 5 rfl) (e_w (e_con (PyData.int 0)))) (e_w (e_con (PyData.int 0)))) (e_w (e_con (PyData.str "result")))) (u_not (u_val (e_call (a_cons' (e_slot 3 rfl) (a_cons' (e_slot 4 rfl) (a_cons' (e_bin op_ix' (e_bin op_ix' (e_slot 5 rfl) (e_w (e_con (PyData.int 0)))) (e_w (e_con (PyData.int 1)))) a_nil'))))))) (f_ret (e_con (PyData.bool false))) (f_skip PUnit.unit (.drop (.keep (.drop (.drop (.drop (.drop (.drop (.drop (.drop .nil))))))))))))))))))) fun s118 =>
  (r_ret (e_con (PyData.bool true))))

end Pf

set_option maxHeartbeats 1000000
namespace Pf
open PySem PySem.Spec PyProof.Rows L2
section
variable {rows : List (Int × Int)} (g : TreeG rows) {ws : List (Int × Option Int)} (hw : ws.length = rows.length + 1) (hc : ∀ w ∈ ws, WinC w)
include g hw hc
theorem T_rightC {tops marks : List Nat} (few : FewOk rows ws tops marks) : T__law_right (treeD rows) (winsD ws) (fewD rows ws tops marks) = S.ret (.bool true) := by
  have hg := g.len
  have lt := up_len few.up few.le
  have lm := up_len few.upM few.leM
  have i1 : oIsi "tuple" (fewD rows ws tops marks) = some (.bool true) := isi_t _
  have i2 : oIsi "tuple" (treeD (fewPs rows ws tops)) = some (.bool true) := isi_t _
  have i3 : oIsi "tuple" (marksD marks) = some (.bool true) := isi_t _
  have u : un2 (fewD rows ws tops marks) = some (treeD (fewPs rows ws tops), marksD marks) := un2_t _ _
  have n1 : oLen (fewD rows ws tops marks) = some (.int 2) := rfl
  have lp : (fewPs rows ws tops).length = tops.length := by unfold fewPs; rw [List.length_map]
  have n2 : oLen (treeD (fewPs rows ws tops)) = some (.int (tops.length : Nat)) := by rw [oLen_tree, lp]
  have n3 : oLen (marksD marks) = some (.int (tops.length : Nat)) := by
    unfold marksD
    rw [oLen_t, List.length_map, few.len]
  have nm : marks ≠ [] := fun z => few.ne (List.length_eq_zero_iff.mp (by rw [few.len, z]; rfl))
  have po := few_push g hw hc few
  have np : fewPs rows ws tops ≠ [] := fun z => few.ne (List.length_eq_zero_iff.mp (by rw [← lp, z]; rfl))
  have o1 : oList (treeD (fewPs rows ws tops)) = some (.list ((fewPs rows ws tops).map rowD)) := rfl
  have o2 : oList (marksD marks) = some (.list (marks.map mkD)) := rfl
  have s1 := sortSet_pairs np (fun p hp => inP_iff.mpr (by
    obtain ⟨⟨a, b⟩, c, d⟩ := po.ok p hp
    omega)) (List.pairwise_map.mpr (few.up.imp fun {a b} h => by show ((a : Nat) : Int) < (b : Nat); omega)) (show (fewPs rows ws tops).length < 60 by omega)
  have s2 := sortSet_marks few.upM (show marks.length < 60 by omega)
  have ap := T_apartC g hw (fun w h => (hc w h).lo.1) few.leM (show marks.length ≤ 100 by omega)
  rw [few_apart g hw hc few] at ap
  have fa := T_fallsC g np (show (fewPs rows ws tops).length ≤ 1000 by omega) po
  have fi := T_fitsC (ws := ws) (ts := fallsL (dist rows) (fewPs rows ws tops) (rows.length + 1)) (by rw [falls_lenC, hw])
  rw [few_fits g hw hc few] at fi
  unfold T__law_right
  simp only [S.ret_bind, u2, u3, S.lift_some, i1, n1, toB_b, Bool.not_true, bOr, Bool.false_eq_true, if_false, cNe_i, decide_true, u, i2, i3, n2, n3, cEq_none nm, o1, o2, s1, s2, cNe_cln (Cln.rowsL _) (show (2 : Nat) ≤ 64 by decide), cNe_cln (Cln.marksL _) (show (1 : Nat) ≤ 64 by decide), ap, fa, fi, dAnd, if_true]
end
theorem can_law : Can 20000 T_law fun d => d = .bool true := by
  unfold T_law
  simp only [S.ret_bind, u1, u2, u3, S.bind_assoc, S.bind_ret, p106, S.lift_some, rngI (show (0 : Int) ≤ 12 by decide) (by decide), rngI (show (0 : Int) ≤ 2 by decide) (by decide)]
  refine Can.up (n := 1000 * ((List.range (12 : Int).toNat).map mkD).length + 0) ?_ (by decide)
  refine (Can.foldF (fun _ (_ : PUnit) => True) 0 trivial (fun i s x _ hx => ?_)).bind fun o ho => ?_
  · obtain ⟨hi, rfl⟩ := range_at hx
    obtain ⟨long, el, l0, l1⟩ := pick2 (a := 9) (b := 1000000) (i := i) (P := fun x => 1 ≤ x ∧ x ≤ 1000000) (by decide) (by decide)
    obtain ⟨late, et, t0, t1⟩ := pick2 (a := 12) (b := 1000000) (i := i) (P := fun x => 0 ≤ x ∧ x ≤ 1000000) (by decide) (by decide)
    simp only [mkD, oMod_k (show (0 : Int) < 2 by decide), S.lift_some, S.ret_bind, el, et]
    refine Can.up (n := 50 + (250 + 0)) ?_ (by decide)
    refine (can_treeC (by decide) (by decide) l0 l1).bind fun d ⟨rows, hd, ok, hlen⟩ => ?_
    subst hd
    have g : TreeG rows := ⟨ok, by omega⟩
    have hg := g.len
    refine (can_windowsC g t0 t1).bind fun d ⟨ws, hd, hw, hc⟩ => ?_
    subst hd
    refine Can.eq (m' := S.ret (.nx ⟨⟩)) (Can.ret trivial) ?_
    have f1 := tree_fine g.ok (by omega)
    have f2 := fine_winsC hg hw hc
    have r1 := okRepr (Fine.pair f1 (f2.up (by decide) (Nat.le_refl _))) (by decide) (by decide)
    simp only [r1, S.lift_some, S.ret_bind, T_pairC g hw]
    -- the two calls
    have two : ∀ v : PyData, S.told "NoTable" "table" (T_fewest_pushes (treeD rows) (winsD ws)) = S.ret v → ∀ t : List PyData → S (Fl PUnit), (((S.lift (szD ((List.range (Int.toNat 2)).map mkD))).bind fun _ => (S.mapM (fun d52 => S.noEx (S.told "NoTable" "table" (T_fewest_pushes (treeD rows) (winsD ws)))) ((List.range (Int.toNat 2)).map mkD)).bind fun xs55 => t xs55)) = t [v, v] := fun v hv t => by
      rw [szD_ok (by decide), S.lift_some, S.ret_bind, S.mapM_map, S.mapM_ret (g := fun _ => v)]
      · rfl
      · intro m _
        rw [hv, S.noEx_ret]
    have x0 : ∀ v : PyData, oIx (.list [v, v]) (.int 0) = some v := fun _ => rfl
    have x1 : ∀ v : PyData, oIx (.list [v, v]) (.int 1) = some v := fun _ => rfl
    cases e : findP (dist rows) ws with
    | none =>
      obtain ⟨tops, marks, few, ef⟩ := T_fewest g hw e
      rw [few_D] at ef
      have hv : S.told "NoTable" "table" (T_fewest_pushes (treeD rows) (winsD ws)) = S.ret (.list [.str "result", fewD rows ws tops marks]) := by
        rw [ef]
        exact S.told_ret _ _ _
      have fv : Fine (.list [.str "result", fewD rows ws tops marks]) 10000 4 := (Fine.pair ((Fine.str (x := "result") (n := 44) (by decide +kernel)).up (n' := 4100) (k' := 3) (by decide) (by decide)) (fine_few g hw hc few hg)).up (by decide) (Nat.le_refl _)
      have r2 := okRepr fv (by decide) (by decide)
      have hci : cIs true (optD (Option.map pairOD none)) PyData.none = some false := rfl
      have y0 : oIx (.list [.str "result", fewD rows ws tops marks]) (.int 0) = some (.str "result") := rfl
      have y1 : oIx (.list [.str "result", fewD rows ws tops marks]) (.int 1) = some (fewD rows ws tops marks) := rfl
      have tr := T_rightC g hw hc few
      rw [two _ hv]
      simp only [x0, x1, S.lift_some, S.ret_bind, r2, cNe_s, bOr, Bool.false_eq_true, if_false, hci, y0, y1, tr, toB_b, Bool.not_true]
    | some p =>
      have ef := T_fewestE g hw e
      have hv : S.told "NoTable" "table" (T_fewest_pushes (treeD rows) (winsD ws)) = S.ret (.list [.str "table", pairOD p]) := by
        rw [ef]
        exact S.told_thr _ _ _
      have f := fine_pairN hg hw
      rw [e] at f
      have fv : Fine (.list [.str "table", pairOD p]) 1000 2 := (Fine.pair ((Fine.str (x := "table") (n := 44) (by decide +kernel)).up (by decide) (by decide)) (f : Fine (pairOD p) 100 1)).up (by decide) (by decide)
      have r2 := okRepr fv (by decide) (by decide)
      have hci : cIs true (pairOD p) PyData.none = some true := rfl
      have eo : optD (Option.map pairOD (some p)) = pairOD p := rfl
      rw [two _ hv]
      simp only [x0, x1, S.lift_some, S.ret_bind, r2, cNe_s, bOr, Bool.false_eq_true, if_false, hci, eo, if_true]
  · cases o with
    | nx s => exact Can.ret rfl
    | _ => exact ho.elim
noncomputable abbrev G__law_next := GdrawC
noncomputable abbrev G__law_draws := GdraC
noncomputable abbrev F__law_draws : List Sv → M Sv := strip 3 G__law_draws
noncomputable abbrev G_law : Rho → M Out := gSeq (gSet 1 (callF F__law_draws 1 (argC (slot 0) argN))) R_law
noncomputable abbrev F_law : List Sv → M Sv := strip 9 G_law
theorem law_true (ns : List Int) (_ : ns.length ≤ 63) : ∃ μ, F_law [.scr ns] [] = some (.ok (.dat (.bool true)) μ) := law_start (N := 9) (by decide) draws_madeC tt_law can_law (by decide) ns
end Pf

set_option maxHeartbeats 1000000
namespace Pf
open PySem PySem.Spec PyProof.Rows L2
def topS (i : Nat) : Stmt := PySem.Challenge.pw_marktopples_k19_fewest_pushes_shown.main.body.getD i (.Pass ⟨0, 0, 0, 0⟩)
variable {P : Program} {w : World} {K : PySem.W.Frag} {mg : Str → Option Value} {base : Heap}
structure Top (mg : Str → Option Value) : Prop where
  m_ValueError : mg "ValueError" = none
  m_any : mg "any" = none
  m_enumerate : mg "enumerate" = none
  m_int : mg "int" = none
  m_isinstance : mg "isinstance" = none
  m_len : mg "len" = none
  m_list : mg "list" = none
  m_max : mg "max" = none
  m_min : mg "min" = none
  m_range : mg "range" = none
  m_repr : mg "repr" = none
  m_set : mg "set" = none
  m_sorted : mg "sorted" = none
  m_tuple : mg "tuple" = none
  m_zip : mg "zip" = none

abbrev s__law_draws : Stmt := topS 20
abbrev N__law_draws : List Str := ["_law_script", "_law_cells", "_law_cell"]
theorem sc__law_draws : FnScope N__law_draws ["_law_script"] (defScope s__law_draws) := ⟨rfl, rfl, rfl, by decide +kernel, rfl, by decide +kernel, by decide +kernel⟩
theorem ok__law_draws (T : Top mg) {f : Addr} {fd : FuncData} (F : Fun K "_law_draws" "_law_draws" s__law_draws f fd) : Gk P w K mg base (L2.CX P w) 1 f fd ["_law_script"] (spM K 1 F__law_draws) := by
  refine gk_strip (k := 0) (l := 3) F sc__law_draws rfl rfl G__law_draws (fun cdv A below s H E hg hr => ?_)
  have nd : N__law_draws.Nodup := sc__law_draws.nd
  have hx : Passes (L2.CX P w) (bx P w K mg base N__law_draws "_law_draws" s__law_draws f cdv A below s H E) E := bx_pass
  have ho : PassesOwn (model P w) (bx P w K mg base N__law_draws "_law_draws" s__law_draws f cdv A below s H E).A (bx P w K mg base N__law_draws "_law_draws" s__law_draws f cdv A below s H E).env (bx P w K mg base N__law_draws "_law_draws" s__law_draws f cdv A below s H E).xe := bx_own
  exact (q_cons (s_set 1 nd (x_bin o_add (x_callTy b_list rfl T.m_list (by decide +kernel) (a_cons (x_slice false (x_name 0) o_none (o_some x_int)) a_nil)) (x_bin o_mul (x_lst false (a_cons x_int a_nil)) (x_callTy b_int rfl T.m_int (by decide +kernel) (a_cons (x_cmp (o_eq (Room.units hr)) (x_callB b_lenS rfl T.m_len PySem.boot_len (a_cons (x_name 0) a_nil)) x_int) a_nil)))))
  (q_one (s_ret (x_lst true (a_cons (x_name 1) (a_cons x_int (a_cons (x_lc true rfl nd (own := [("_law_cell", 2)]) (i_seq (x_name 1)) (blkOk_by (N := N__law_draws) (sc := defScope s__law_draws) (by decide +kernel)) (fun _ _ _ _ _ => (pw_nm 2 nd (by decide))) (fun _ _ _ _ _ => ts_nil) (fun _ _ _ _ _ => (x_bin o_mul (x_name 2) (x_callTy b_int rfl T.m_int (by decide +kernel) (a_cons (x_cmp o_ge (x_name 2) (x_bin o_pow x_int x_int)) a_nil))))) a_nil)))))))
abbrev s__law_next : Stmt := topS 21
abbrev N__law_next : List Str := ["_law_drawn", "_law_many", "_law_spot", "_law_mixed", "_law_more", "_law_cells", "_law_nth", "_law_rests", "_law_digit"]
theorem sc__law_next : FnScope N__law_next ["_law_drawn", "_law_many"] (defScope s__law_next) := ⟨rfl, rfl, rfl, by decide +kernel, rfl, by decide +kernel, by decide +kernel⟩
theorem ok__law_next (T : Top mg) {f : Addr} {fd : FuncData} (F : Fun K "_law_next" "_law_next" s__law_next f fd) : Gk P w K mg base (L2.CX P w) 1 f fd ["_law_drawn", "_law_many"] (spM K 2 F__law_next) := by
  refine gk_of (k := 0) F sc__law_next rfl G__law_next (fun cdv A below s H E hg hr => ?_) same_drawC
  have nd : N__law_next.Nodup := sc__law_next.nd
  have hx : Passes (L2.CX P w) (bx P w K mg base N__law_next "_law_next" s__law_next f cdv A below s H E) E := bx_pass
  have ho : PassesOwn (model P w) (bx P w K mg base N__law_next "_law_next" s__law_next f cdv A below s H E).A (bx P w K mg base N__law_next "_law_next" s__law_next f cdv A below s H E).env (bx P w K mg base N__law_next "_law_next" s__law_next f cdv A below s H E).xe := bx_own
  exact (q_cons (s_asg (x_name 0) (pg_tpM 3 rfl (pgs_c (pg_nm 5 nd) (pgs_c (pg_nm 6 nd) (pgs_c (pg_nm 7 nd) pgs_0)))))
  (q_cons (s_set 2 nd (x_bin o_mod (x_name 6) (x_callB b_len rfl T.m_len PySem.boot_len (a_cons (x_name 5) a_nil))))
  (q_cons (s_asg (x_bin o_add (x_name 6) x_int) (pg_st (x_name 0) x_int (pg_sub (x_name 0) x_int set_list)))
  (q_cons (s_if (t_cmp o_gt (x_ix o_ix (x_name 7) (x_name 2)) x_int)
  (q_cons (s_set 8 nd (x_bin o_mod (x_ix o_ix (x_name 7) (x_name 2)) (x_name 1)))
  (q_cons (s_asg (x_bin o_fdiv (x_ix o_ix (x_name 7) (x_name 2)) (x_name 1)) (pg_st (x_name 7) (x_name 2) (pg_sub (x_name 7) (x_name 2) set_list)))
  (q_one (s_ret (x_name 8)))))
  q_nil)
  (q_cons (s_set 3 nd (x_bin o_mod (x_bin o_pow (x_bin o_add (x_bin o_add (x_bin o_mod (x_ix o_ix (x_name 5) (x_name 2)) x_int) (x_bin o_mul x_int (x_name 6))) x_int) x_int) x_int))
  (q_cons (s_set 4 nd (x_bin o_mod (x_bin o_pow (x_bin o_add (x_bin o_add (x_name 3) (x_bin o_mul (x_bin o_mul x_int (x_name 6)) (x_name 6))) x_int) x_int) x_int))
  (q_one (s_ret (x_bin o_mod (x_bin o_mod (x_bin o_add (x_bin o_mul (x_name 4) x_int) (x_name 3)) x_int) (x_name 1))))))))))
abbrev s__law_tree : Stmt := topS 22
abbrev N__law_tree : List Str := ["_law_drawn", "_law_most", "_law_long", "_law_k", "_law_many", "_law_way", "_law_found", "_law_parent"]
theorem sc__law_tree : FnScope N__law_tree ["_law_drawn", "_law_most", "_law_long"] (defScope s__law_tree) := ⟨rfl, rfl, rfl, by decide +kernel, rfl, by decide +kernel, by decide +kernel⟩
theorem ok__law_tree (T : Top mg) {f : Addr} {fd : FuncData} (F : Fun K "_law_tree" "_law_tree" s__law_tree f fd) {f__law_next : Addr} {fd__law_next : FuncData} (F_law_next : Fun K "_law_next" "_law_next" s__law_next f__law_next fd__law_next) (g__law_next : mg "_law_next" = some (.ref f__law_next)) (b__law_next : Binds K fd__law_next ["_law_drawn", "_law_many"] []) (C__law_next : Gk P w K mg base (L2.CX P w) 1 f__law_next fd__law_next ["_law_drawn", "_law_many"] (spM K 2 F__law_next)) : Gk P w K mg base (L2.CX P w) 2 f fd ["_law_drawn", "_law_most", "_law_long"] (spM K 3 F__law_tree) := by
  refine gk_of (k := 1) F sc__law_tree rfl G__law_tree (fun cdv A below s H E hg hr => ?_) same__law_tree
  have nd : N__law_tree.Nodup := sc__law_tree.nd
  have hx : Passes (L2.CX P w) (bx P w K mg base N__law_tree "_law_tree" s__law_tree f cdv A below s H E) E := bx_pass
  have ho : PassesOwn (model P w) (bx P w K mg base N__law_tree "_law_tree" s__law_tree f cdv A below s H E).A (bx P w K mg base N__law_tree "_law_tree" s__law_tree f cdv A below s H E).env (bx P w K mg base N__law_tree "_law_tree" s__law_tree f cdv A below s H E).xe := bx_own
  exact (q_cons (s_par3 4 5 6 rfl nd (a_cons (x_call1 C__law_next hg hr g__law_next F_law_next.kp b__law_next hx (a_cons (x_name 0) (a_cons (x_name 1) a_nil))) (a_cons (x_call1 C__law_next hg hr g__law_next F_law_next.kp b__law_next hx (a_cons (x_name 0) (a_cons x_int a_nil))) (a_cons (x_lst true a_nil) a_nil))) (by first | rfl | with_unfolding_all rfl))
  (q_cons (s_for ho rfl (i_rng rfl T.m_range (x_name 4)) (pg_nm 3 nd)
  (q_cons (s_set 7 nd (x_ix o_ix (x_lst false (a_cons (x_call1 C__law_next hg hr g__law_next F_law_next.kp b__law_next hx (a_cons (x_name 0) (a_cons (x_bin o_add (x_name 3) x_int) a_nil))) (a_cons (x_name 3) (a_cons x_int (a_cons (x_callB b_max2 rfl T.m_max (by decide +kernel) (a_cons x_int (a_cons (x_bin o_sub (x_bin o_sub (x_name 3) x_int) (x_call1 C__law_next hg hr g__law_next F_law_next.kp b__law_next hx (a_cons (x_name 0) (a_cons x_int a_nil)))) a_nil))) a_nil))))) (x_name 5)))
  (q_one (s_expr (x_append (x_name 6) (x_tup (a_cons (x_name 7) (a_cons (x_bin o_add x_int (x_call1 C__law_next hg hr g__law_next F_law_next.kp b__law_next hx (a_cons (x_name 0) (a_cons (x_ix o_ix (x_lst false (a_cons (x_name 2) (a_cons (x_callB b_min2 rfl T.m_min (by decide +kernel) (a_cons (x_name 2) (a_cons x_int a_nil))) a_nil))) (x_call1 C__law_next hg hr g__law_next F_law_next.kp b__law_next hx (a_cons (x_name 0) (a_cons x_int a_nil)))) a_nil)))) a_nil))))))))
  (q_one (s_ret (x_callTy b_tuple rfl T.m_tuple (by decide +kernel) (a_cons (x_name 6) a_nil))))))
abbrev s__law_gap : Stmt := topS 23
abbrev N__law_gap : List Str := ["_law_tree_here", "_law_one", "_law_other", "_law_found"]
theorem sc__law_gap : FnScope N__law_gap ["_law_tree_here", "_law_one", "_law_other"] (defScope s__law_gap) := ⟨rfl, rfl, rfl, by decide +kernel, rfl, by decide +kernel, by decide +kernel⟩
theorem ok__law_gap (T : Top mg) {f : Addr} {fd : FuncData} (F : Fun K "_law_gap" "_law_gap" s__law_gap f fd) : Gk P w K mg base (L2.CX P w) 1 f fd ["_law_tree_here", "_law_one", "_law_other"] (spM K 3 F__law_gap) := by
  refine gk_of (k := 0) F sc__law_gap rfl G__law_gap (fun cdv A below s H E hg hr => ?_) same__law_gap
  have nd : N__law_gap.Nodup := sc__law_gap.nd
  have hx : Passes (L2.CX P w) (bx P w K mg base N__law_gap "_law_gap" s__law_gap f cdv A below s H E) E := bx_pass
  have ho : PassesOwn (model P w) (bx P w K mg base N__law_gap "_law_gap" s__law_gap f cdv A below s H E).A (bx P w K mg base N__law_gap "_law_gap" s__law_gap f cdv A below s H E).env (bx P w K mg base N__law_gap "_law_gap" s__law_gap f cdv A below s H E).xe := bx_own
  exact (q_cons (s_set 3 nd x_int)
  (q_cons (s_while 100 ho (t_cmp (o_ne (Room.units hr)) (x_name 1) (x_name 2))
  (q_cons (s_if (t_cmp o_lt (x_name 1) (x_name 2))
  (q_one (s_par 1 2 rfl nd (a_cons (x_name 2) (a_cons (x_name 1) a_nil)) (by first | rfl | with_unfolding_all rfl)))
  q_nil)
  (q_cons (s_set 3 nd (x_bin o_add (x_name 3) (x_ix o_ix (x_ix o_ix (x_name 0) (x_bin o_sub (x_name 1) x_int)) x_int)))
  (q_one (s_set 1 nd (x_ix o_ix (x_ix o_ix (x_name 0) (x_bin o_sub (x_name 1) x_int)) x_int))))))
  (q_one (s_ret (x_name 3)))))
abbrev s__law_falls : Stmt := topS 24
abbrev N__law_falls : List Str := ["_law_tree_here", "_law_pushes_here", "_law_found", "_law_mark", "_law_one", "_law_tick"]
theorem sc__law_falls : FnScope N__law_falls ["_law_tree_here", "_law_pushes_here"] (defScope s__law_falls) := ⟨rfl, rfl, rfl, by decide +kernel, rfl, by decide +kernel, by decide +kernel⟩
theorem ok__law_falls (T : Top mg) {f : Addr} {fd : FuncData} (F : Fun K "_law_falls" "_law_falls" s__law_falls f fd) {f__law_gap : Addr} {fd__law_gap : FuncData} (F_law_gap : Fun K "_law_gap" "_law_gap" s__law_gap f__law_gap fd__law_gap) (g__law_gap : mg "_law_gap" = some (.ref f__law_gap)) (b__law_gap : Binds K fd__law_gap ["_law_tree_here", "_law_one", "_law_other"] []) (C__law_gap : Gk P w K mg base (L2.CX P w) 1 f__law_gap fd__law_gap ["_law_tree_here", "_law_one", "_law_other"] (spM K 3 F__law_gap)) : Gk P w K mg base (L2.CX P w) 2 f fd ["_law_tree_here", "_law_pushes_here"] (spM K 2 F__law_falls) := by
  refine gk_of (k := 1) F sc__law_falls rfl G__law_falls (fun cdv A below s H E hg hr => ?_) same__law_falls
  have nd : N__law_falls.Nodup := sc__law_falls.nd
  have hx : Passes (L2.CX P w) (bx P w K mg base N__law_falls "_law_falls" s__law_falls f cdv A below s H E) E := bx_pass
  have ho : PassesOwn (model P w) (bx P w K mg base N__law_falls "_law_falls" s__law_falls f cdv A below s H E).A (bx P w K mg base N__law_falls "_law_falls" s__law_falls f cdv A below s H E).env (bx P w K mg base N__law_falls "_law_falls" s__law_falls f cdv A below s H E).xe := bx_own
  exact (q_cons (s_set 2 nd (x_lst true a_nil))
  (q_cons (s_for ho rfl (i_rng rfl T.m_range (x_bin o_add (x_callB b_len rfl T.m_len PySem.boot_len (a_cons (x_name 0) a_nil)) x_int)) (pg_nm 3 nd)
  (q_one (s_expr (x_append (x_name 2) (x_callB (b_minA (Room.units hr)) rfl T.m_min (by decide +kernel) (a_cons (x_lc false rfl nd (own := [("_law_one", 4), ("_law_tick", 5)]) (i_seq (x_name 1)) (blkOk_by (N := N__law_falls) (sc := defScope s__law_falls) (by decide +kernel)) (fun _ _ _ _ _ => (pw_tp 2 rfl (pws_c (pw_nm 4 nd (by decide)) (pws_c (pw_nm 5 nd (by decide)) pws_0)))) (fun _ _ _ _ _ => ts_nil) (fun _ _ _ _ _ => (x_bin o_add (x_name 5) (x_call1 C__law_gap hg hr g__law_gap F_law_gap.kp b__law_gap passL (a_cons (x_name 0) (a_cons (x_name 4) (a_cons (x_name 3) a_nil))))))) a_nil))))))
  (q_one (s_ret (x_callTy b_tuple rfl T.m_tuple (by decide +kernel) (a_cons (x_name 2) a_nil))))))
abbrev s__law_pushes : Stmt := topS 25
abbrev N__law_pushes : List Str := ["_law_drawn", "_law_tree_here", "_law_most", "_law_late", "_law_found", "_law_k"]
theorem sc__law_pushes : FnScope N__law_pushes ["_law_drawn", "_law_tree_here", "_law_most", "_law_late"] (defScope s__law_pushes) := ⟨rfl, rfl, rfl, by decide +kernel, rfl, by decide +kernel, by decide +kernel⟩
theorem ok__law_pushes (T : Top mg) {f : Addr} {fd : FuncData} (F : Fun K "_law_pushes" "_law_pushes" s__law_pushes f fd) {f__law_next : Addr} {fd__law_next : FuncData} (F_law_next : Fun K "_law_next" "_law_next" s__law_next f__law_next fd__law_next) (g__law_next : mg "_law_next" = some (.ref f__law_next)) (b__law_next : Binds K fd__law_next ["_law_drawn", "_law_many"] []) (C__law_next : Gk P w K mg base (L2.CX P w) 1 f__law_next fd__law_next ["_law_drawn", "_law_many"] (spM K 2 F__law_next)) : Gk P w K mg base (L2.CX P w) 2 f fd ["_law_drawn", "_law_tree_here", "_law_most", "_law_late"] (spM K 4 F__law_pushes) := by
  refine gk_of (k := 1) F sc__law_pushes rfl G__law_pushes (fun cdv A below s H E hg hr => ?_) same__law_pushes
  have nd : N__law_pushes.Nodup := sc__law_pushes.nd
  have hx : Passes (L2.CX P w) (bx P w K mg base N__law_pushes "_law_pushes" s__law_pushes f cdv A below s H E) E := bx_pass
  have ho : PassesOwn (model P w) (bx P w K mg base N__law_pushes "_law_pushes" s__law_pushes f cdv A below s H E).A (bx P w K mg base N__law_pushes "_law_pushes" s__law_pushes f cdv A below s H E).env (bx P w K mg base N__law_pushes "_law_pushes" s__law_pushes f cdv A below s H E).xe := bx_own
  exact (q_cons (s_set 4 nd (x_lst true a_nil))
  (q_cons (s_for ho rfl (i_rng rfl T.m_range (x_bin o_add x_int (x_call1 C__law_next hg hr g__law_next F_law_next.kp b__law_next hx (a_cons (x_name 0) (a_cons (x_name 2) a_nil))))) (pg_nm 5 nd)
  (q_one (s_expr (x_append (x_name 4) (x_tup (a_cons (x_call1 C__law_next hg hr g__law_next F_law_next.kp b__law_next hx (a_cons (x_name 0) (a_cons (x_bin o_add (x_callB b_len rfl T.m_len PySem.boot_len (a_cons (x_name 1) a_nil)) x_int) a_nil))) (a_cons (x_call1 C__law_next hg hr g__law_next F_law_next.kp b__law_next hx (a_cons (x_name 0) (a_cons (x_bin o_add (x_name 3) x_int) a_nil))) a_nil)))))))
  (q_one (s_ret (x_callTy b_tuple rfl T.m_tuple (by decide +kernel) (a_cons (x_name 4) a_nil))))))
abbrev s__law_windows : Stmt := topS 26
abbrev N__law_windows : List Str := ["_law_drawn", "_law_tree_here", "_law_late", "_law_falls_here", "_law_fall", "_law_slack", "_law_way", "_law_found", "_law_least", "_law_last", "_law_at"]
theorem sc__law_windows : FnScope N__law_windows ["_law_drawn", "_law_tree_here", "_law_late"] (defScope s__law_windows) := ⟨rfl, rfl, rfl, by decide +kernel, rfl, by decide +kernel, by decide +kernel⟩
theorem ok__law_windows (T : Top mg) {f : Addr} {fd : FuncData} (F : Fun K "_law_windows" "_law_windows" s__law_windows f fd) {f__law_falls : Addr} {fd__law_falls : FuncData} (F_law_falls : Fun K "_law_falls" "_law_falls" s__law_falls f__law_falls fd__law_falls) (g__law_falls : mg "_law_falls" = some (.ref f__law_falls)) (b__law_falls : Binds K fd__law_falls ["_law_tree_here", "_law_pushes_here"] []) (C__law_falls : Gk P w K mg base (L2.CX P w) 2 f__law_falls fd__law_falls ["_law_tree_here", "_law_pushes_here"] (spM K 2 F__law_falls)) {f__law_pushes : Addr} {fd__law_pushes : FuncData} (F_law_pushes : Fun K "_law_pushes" "_law_pushes" s__law_pushes f__law_pushes fd__law_pushes) (g__law_pushes : mg "_law_pushes" = some (.ref f__law_pushes)) (b__law_pushes : Binds K fd__law_pushes ["_law_drawn", "_law_tree_here", "_law_most", "_law_late"] []) (C__law_pushes : Gk P w K mg base (L2.CX P w) 2 f__law_pushes fd__law_pushes ["_law_drawn", "_law_tree_here", "_law_most", "_law_late"] (spM K 4 F__law_pushes)) {f__law_next : Addr} {fd__law_next : FuncData} (F_law_next : Fun K "_law_next" "_law_next" s__law_next f__law_next fd__law_next) (g__law_next : mg "_law_next" = some (.ref f__law_next)) (b__law_next : Binds K fd__law_next ["_law_drawn", "_law_many"] []) (C__law_next : Gk P w K mg base (L2.CX P w) 1 f__law_next fd__law_next ["_law_drawn", "_law_many"] (spM K 2 F__law_next)) : Gk P w K mg base (L2.CX P w) 3 f fd ["_law_drawn", "_law_tree_here", "_law_late"] (spM K 3 F__law_windows) := by
  refine gk_of (k := 2) F sc__law_windows rfl G__law_windows (fun cdv A below s H E hg hr => ?_) same__law_windows
  have nd : N__law_windows.Nodup := sc__law_windows.nd
  have hx : Passes (L2.CX P w) (bx P w K mg base N__law_windows "_law_windows" s__law_windows f cdv A below s H E) E := bx_pass
  have ho : PassesOwn (model P w) (bx P w K mg base N__law_windows "_law_windows" s__law_windows f cdv A below s H E).A (bx P w K mg base N__law_windows "_law_windows" s__law_windows f cdv A below s H E).env (bx P w K mg base N__law_windows "_law_windows" s__law_windows f cdv A below s H E).xe := bx_own
  exact (q_cons (s_set 3 nd (x_call1 C__law_falls hg hr g__law_falls F_law_falls.kp b__law_falls hx (a_cons (x_name 1) (a_cons (x_call1 C__law_pushes hg hr g__law_pushes F_law_pushes.kp b__law_pushes hx (a_cons (x_name 0) (a_cons (x_name 1) (a_cons x_int (a_cons (x_name 2) a_nil))))) a_nil))))
  (q_cons (s_par3 5 6 7 rfl nd (a_cons (x_ix o_ix (x_lst false (a_cons x_int (a_cons x_int (a_cons (x_bin o_add (x_name 2) x_int) a_nil)))) (x_call1 C__law_next hg hr g__law_next F_law_next.kp b__law_next hx (a_cons (x_name 0) (a_cons x_int a_nil)))) (a_cons (x_call1 C__law_next hg hr g__law_next F_law_next.kp b__law_next hx (a_cons (x_name 0) (a_cons x_int a_nil))) (a_cons (x_lst true a_nil) a_nil))) (by first | rfl | with_unfolding_all rfl))
  (q_cons (s_for ho rfl (i_seq (x_name 3)) (pg_nm 4 nd)
  (q_cons (s_set 8 nd (x_callB b_max2 rfl T.m_max (by decide +kernel) (a_cons x_int (a_cons (x_bin o_sub (x_name 4) (x_call1 C__law_next hg hr g__law_next F_law_next.kp b__law_next hx (a_cons (x_name 0) (a_cons (x_bin o_add (x_name 5) x_int) a_nil)))) a_nil))))
  (q_cons (s_set 9 nd (x_bin o_add (x_name 4) (x_call1 C__law_next hg hr g__law_next F_law_next.kp b__law_next hx (a_cons (x_name 0) (a_cons (x_bin o_add (x_name 5) x_int) a_nil)))))
  (q_cons (s_if (t_w (w_and (t_cmp (o_eq (Room.units hr)) (x_name 6) x_int) (w_and1 (t_cmp (o_eq (Room.units hr)) (x_call1 C__law_next hg hr g__law_next F_law_next.kp b__law_next hx (a_cons (x_name 0) (a_cons x_int a_nil))) x_int))))
  (q_one (s_set 9 nd x_non))
  q_nil)
  (q_one (s_expr (x_append (x_name 7) (x_tup (a_cons (x_name 8) (a_cons (x_name 9) a_nil))))))))))
  (q_cons (s_if (t_cmp (o_eq (Room.units hr)) (x_name 6) x_int)
  (q_cons (s_par 10 8 rfl nd (a_cons (x_call1 C__law_next hg hr g__law_next F_law_next.kp b__law_next hx (a_cons (x_name 0) (a_cons (x_callB b_len rfl T.m_len PySem.boot_len (a_cons (x_name 7) a_nil)) a_nil))) (a_cons (x_call1 C__law_next hg hr g__law_next F_law_next.kp b__law_next hx (a_cons (x_name 0) (a_cons (x_bin o_add (x_name 2) x_int) a_nil))) a_nil)) (by first | rfl | with_unfolding_all rfl))
  (q_one (s_asg (x_tup (a_cons (x_name 8) (a_cons (x_bin o_add (x_name 8) (x_call1 C__law_next hg hr g__law_next F_law_next.kp b__law_next hx (a_cons (x_name 0) (a_cons (x_name 5) a_nil)))) a_nil))) (pg_st (x_name 7) (x_name 10) (pg_sub (x_name 7) (x_name 10) set_list)))))
  q_nil)
  (q_one (s_ret (x_callTy b_tuple rfl T.m_tuple (by decide +kernel) (a_cons (x_name 7) a_nil))))))))
abbrev s__law_pair : Stmt := topS 27
abbrev N__law_pair : List Str := ["_law_tree_here", "_law_windows_here", "_law_one", "_law_other", "_law_last", "_law_gap_here"]
theorem sc__law_pair : FnScope N__law_pair ["_law_tree_here", "_law_windows_here"] (defScope s__law_pair) := ⟨rfl, rfl, rfl, by decide +kernel, rfl, by decide +kernel, by decide +kernel⟩
theorem ok__law_pair (T : Top mg) {f : Addr} {fd : FuncData} (F : Fun K "_law_pair" "_law_pair" s__law_pair f fd) {f__law_gap : Addr} {fd__law_gap : FuncData} (F_law_gap : Fun K "_law_gap" "_law_gap" s__law_gap f__law_gap fd__law_gap) (g__law_gap : mg "_law_gap" = some (.ref f__law_gap)) (b__law_gap : Binds K fd__law_gap ["_law_tree_here", "_law_one", "_law_other"] []) (C__law_gap : Gk P w K mg base (L2.CX P w) 1 f__law_gap fd__law_gap ["_law_tree_here", "_law_one", "_law_other"] (spM K 3 F__law_gap)) : Gk P w K mg base (L2.CX P w) 2 f fd ["_law_tree_here", "_law_windows_here"] (spM K 2 F__law_pair) := by
  refine gk_of (k := 1) F sc__law_pair rfl G__law_pair (fun cdv A below s H E hg hr => ?_) same__law_pair
  have nd : N__law_pair.Nodup := sc__law_pair.nd
  have hx : Passes (L2.CX P w) (bx P w K mg base N__law_pair "_law_pair" s__law_pair f cdv A below s H E) E := bx_pass
  have ho : PassesOwn (model P w) (bx P w K mg base N__law_pair "_law_pair" s__law_pair f cdv A below s H E).A (bx P w K mg base N__law_pair "_law_pair" s__law_pair f cdv A below s H E).env (bx P w K mg base N__law_pair "_law_pair" s__law_pair f cdv A below s H E).xe := bx_own
  exact (q_cons (s_for ho rfl (i_rng rfl T.m_range (x_callB b_len rfl T.m_len PySem.boot_len (a_cons (x_name 1) a_nil))) (pg_nm 2 nd)
  (q_one (s_for ho rfl (i_rng rfl T.m_range (x_callB b_len rfl T.m_len PySem.boot_len (a_cons (x_name 1) a_nil))) (pg_nm 3 nd)
  (q_cons (s_set 4 nd (x_ix o_ix (x_ix o_ix (x_name 1) (x_name 3)) x_int))
  (q_one (s_if (t_cmp o_isnot (x_name 4) x_non)
  (q_cons (s_set 5 nd (x_call1 C__law_gap hg hr g__law_gap F_law_gap.kp b__law_gap hx (a_cons (x_name 0) (a_cons (x_name 2) (a_cons (x_name 3) a_nil)))))
  (q_one (s_if (t_cmp o_gt (x_ix o_ix (x_ix o_ix (x_name 1) (x_name 2)) x_int) (x_bin o_add (x_name 4) (x_name 5)))
  (q_one (s_ret (x_tup (a_cons (x_name 2) (a_cons (x_name 3) a_nil)))))
  q_nil)))
  q_nil))))))
  (q_one (s_ret x_non)))
abbrev s_distances_of : Stmt := topS 8
abbrev N_distances_of : List Str := ["tree", "far", "parent", "length", "near", "way", "mark", "ways"]
theorem sc_distances_of : FnScope N_distances_of ["tree"] (defScope s_distances_of) := ⟨rfl, rfl, rfl, by decide +kernel, rfl, by decide +kernel, by decide +kernel⟩
theorem ok_distances_of (T : Top mg) {f : Addr} {fd : FuncData} (F : Fun K "distances_of" "distances_of" s_distances_of f fd) : Gk P w K mg base (L2.CX P w) 1 f fd ["tree"] (spM K 1 F_distances_of) := by
  refine gk_of (k := 0) F sc_distances_of rfl G_distances_of (fun cdv A below s H E hg hr => ?_) same_distances_of
  have nd : N_distances_of.Nodup := sc_distances_of.nd
  have hx : Passes (L2.CX P w) (bx P w K mg base N_distances_of "distances_of" s_distances_of f cdv A below s H E) E := bx_pass
  have ho : PassesOwn (model P w) (bx P w K mg base N_distances_of "distances_of" s_distances_of f cdv A below s H E).A (bx P w K mg base N_distances_of "distances_of" s_distances_of f cdv A below s H E).env (bx P w K mg base N_distances_of "distances_of" s_distances_of f cdv A below s H E).xe := bx_own
  exact (q_cons (s_set 1 nd (x_lst false (a_cons (x_lst false (a_cons x_int a_nil)) a_nil)))
  (q_cons (s_for ho rfl (i_seq (x_name 0)) (pg_tp 2 rfl (pgs_c (pg_nm 2 nd) (pgs_c (pg_nm 3 nd) pgs_0)))
  (q_cons (s_set 4 nd (x_lc false rfl nd (own := [("way", 5)]) (i_seq (x_ix o_ix (x_name 1) (x_name 2))) (blkOk_by (N := N_distances_of) (sc := defScope s_distances_of) (by decide +kernel)) (fun _ _ _ _ _ => (pw_nm 5 nd (by decide))) (fun _ _ _ _ _ => ts_nil) (fun _ _ _ _ _ => (x_bin o_add (x_name 5) (x_name 3)))))
  (q_one (s_set 1 nd (x_bin o_add (x_lc false rfl nd (own := [("mark", 6), ("ways", 7)]) (i_enuA rfl T.m_enumerate (x_name 1)) (blkOk_by (N := N_distances_of) (sc := defScope s_distances_of) (by decide +kernel)) (fun _ _ _ _ _ => (pw_tp 2 rfl (pws_c (pw_nm 6 nd (by decide)) (pws_c (pw_nm 7 nd (by decide)) pws_0)))) (fun _ _ _ _ _ => ts_nil) (fun _ _ _ _ _ => (x_bin o_add (x_name 7) (x_lst false (a_cons (x_ix o_ix (x_name 4) (x_name 6)) a_nil))))) (x_lst false (a_cons (x_bin o_add (x_name 4) (x_lst false (a_cons x_int a_nil))) a_nil)))))))
  (q_one (s_ret (x_name 1)))))
abbrev s__part_at : Stmt := topS 15
abbrev N__part_at : List Str := ["far", "windows", "firsts", "mark", "last", "other", "first", "way"]
theorem sc__part_at : FnScope N__part_at ["far", "windows", "firsts", "mark"] (defScope s__part_at) := ⟨rfl, rfl, rfl, by decide +kernel, rfl, by decide +kernel, by decide +kernel⟩
theorem ok__part_at (T : Top mg) {f : Addr} {fd : FuncData} (F : Fun K "_part_at" "_part_at" s__part_at f fd) : Gk P w K mg base (L2.CX P w) 1 f fd ["far", "windows", "firsts", "mark"] (spM K 4 F__part_at) := by
  refine gk_of (k := 0) F sc__part_at rfl G__part_at (fun cdv A below s H E hg hr => ?_) same__part_at
  have nd : N__part_at.Nodup := sc__part_at.nd
  have hx : Passes (L2.CX P w) (bx P w K mg base N__part_at "_part_at" s__part_at f cdv A below s H E) E := bx_pass
  have ho : PassesOwn (model P w) (bx P w K mg base N__part_at "_part_at" s__part_at f cdv A below s H E).A (bx P w K mg base N__part_at "_part_at" s__part_at f cdv A below s H E).env (bx P w K mg base N__part_at "_part_at" s__part_at f cdv A below s H E).xe := bx_own
  exact (q_cons (s_set 4 nd (x_ix o_ix (x_ix o_ix (x_name 1) (x_name 3)) x_int))
  (q_cons (s_if (t_cmp o_is (x_name 4) x_non)
  (q_one (s_ret (x_tupRg rfl rfl T.m_tuple rfl T.m_range (x_callB b_len rfl T.m_len PySem.boot_len (a_cons (x_name 1) a_nil)))))
  q_nil)
  (q_one (s_ret (x_callTy b_tuple rfl T.m_tuple (by decide +kernel) (a_cons (x_lc false rfl nd (own := [("other", 5), ("first", 6), ("way", 7)]) (i_enuZ rfl T.m_enumerate rfl T.m_zip (x_name 2) (x_ix o_ix (x_name 0) (x_name 3))) (blkOk_by (N := N__part_at) (sc := defScope s__part_at) (by decide +kernel)) (fun _ _ _ _ _ => (pw_tp 2 rfl (pws_c (pw_nm 5 nd (by decide)) (pws_c (pw_tp 2 rfl (pws_c (pw_nm 6 nd (by decide)) (pws_c (pw_nm 7 nd (by decide)) pws_0))) pws_0)))) (fun _ _ _ _ _ => (ts_one (t_cmp o_le (x_bin o_add (x_name 6) (x_name 7)) (x_name 4)))) (fun _ _ _ _ _ => (x_name 5))) a_nil))))))
abbrev s__meet_parts : Stmt := topS 18
abbrev N__meet_parts : List Str := ["parts", "order", "tops", "marks", "top", "mark", "part", "chosen"]
theorem sc__meet_parts : FnScope N__meet_parts ["parts"] (defScope s__meet_parts) := ⟨rfl, rfl, rfl, by decide +kernel, rfl, by decide +kernel, by decide +kernel⟩
theorem ok__meet_parts (T : Top mg) {f : Addr} {fd : FuncData} (F : Fun K "_meet_parts" "_meet_parts" s__meet_parts f fd) : Gk P w K mg base (L2.CX P w) 1 f fd ["parts"] (spM K 1 F__meet_parts) := by
  refine gk_of (k := 0) F sc__meet_parts rfl G__meet_parts (fun cdv A below s H E hg hr => ?_) same__meet_parts
  have nd : N__meet_parts.Nodup := sc__meet_parts.nd
  have hx : Passes (L2.CX P w) (bx P w K mg base N__meet_parts "_meet_parts" s__meet_parts f cdv A below s H E) E := bx_pass
  have ho : PassesOwn (model P w) (bx P w K mg base N__meet_parts "_meet_parts" s__meet_parts f cdv A below s H E).A (bx P w K mg base N__meet_parts "_meet_parts" s__meet_parts f cdv A below s H E).env (bx P w K mg base N__meet_parts "_meet_parts" s__meet_parts f cdv A below s H E).xe := bx_own
  exact (q_cons (s_set 1 nd (x_sortR (Room.units hr) (x_lc false rfl nd (own := [("mark", 5), ("part", 6)]) (i_enuA rfl T.m_enumerate (x_name 0)) (blkOk_by (N := N__meet_parts) (sc := defScope s__meet_parts) (by decide +kernel)) (fun _ _ _ _ _ => (pw_tp 2 rfl (pws_c (pw_nm 5 nd (by decide)) (pws_c (pw_nm 6 nd (by decide)) pws_0)))) (fun _ _ _ _ _ => ts_nil) (fun _ _ _ _ _ => (x_tup (a_cons (x_ix o_ix (x_name 6) x_int) (a_cons (x_name 5) a_nil))))) x_bl T.m_sorted (by decide +kernel)))
  (q_cons (s_set 2 nd (x_lst true a_nil))
  (q_cons (s_set 3 nd (x_lst true a_nil))
  (q_cons (s_for ho rfl (i_seq (x_name 1)) (pg_tp 2 rfl (pgs_c (pg_nm 4 nd) (pgs_c (pg_nm 5 nd) pgs_0)))
  (q_one (s_if (t_not (t_val (x_callB b_any rfl T.m_any (by decide +kernel) (a_cons (x_lcR false 2 rfl nd (own := [("chosen", 7)]) (x_name 2) (blkOk_by (N := N__meet_parts) (sc := defScope s__meet_parts) (by decide +kernel)) (fun _ _ _ _ _ => (pw_nm 7 nd (by decide))) (fun _ _ _ _ _ => ts_nil) (fun _ _ _ _ _ => (x_cmp (o_in (units65 hr)) (x_name 7) (x_ix o_ix (x_name 0) (x_name 5))))) a_nil))))
  (q_cons (s_expr (x_append (x_name 2) (x_name 4)))
  (q_one (s_expr (x_append (x_name 3) (x_name 5)))))
  q_nil)))
  (q_one (s_ret (x_tup (a_cons (x_frz (x_name 2)) (a_cons (x_frz (x_name 3)) a_nil)))))))))
abbrev s__fewest_at : Stmt := topS 17
abbrev N__fewest_at : List Str := ["far", "windows", "firsts", "parts", "tops", "marks", "mark", "top"]
theorem sc__fewest_at : FnScope N__fewest_at ["far", "windows", "firsts"] (defScope s__fewest_at) := ⟨rfl, rfl, rfl, by decide +kernel, rfl, by decide +kernel, by decide +kernel⟩
theorem ok__fewest_at (T : Top mg) {f : Addr} {fd : FuncData} (F : Fun K "_fewest_at" "_fewest_at" s__fewest_at f fd) {f__part_at : Addr} {fd__part_at : FuncData} (F_part_at : Fun K "_part_at" "_part_at" s__part_at f__part_at fd__part_at) (g__part_at : mg "_part_at" = some (.ref f__part_at)) (b__part_at : Binds K fd__part_at ["far", "windows", "firsts", "mark"] []) (C__part_at : Gk P w K mg base (L2.CX P w) 1 f__part_at fd__part_at ["far", "windows", "firsts", "mark"] (spM K 4 F__part_at)) {f__meet_parts : Addr} {fd__meet_parts : FuncData} (F_meet_parts : Fun K "_meet_parts" "_meet_parts" s__meet_parts f__meet_parts fd__meet_parts) (g__meet_parts : mg "_meet_parts" = some (.ref f__meet_parts)) (b__meet_parts : Binds K fd__meet_parts ["parts"] []) (C__meet_parts : Gk P w K mg base (L2.CX P w) 1 f__meet_parts fd__meet_parts ["parts"] (spM K 1 F__meet_parts)) : Gk P w K mg base (L2.CX P w) 2 f fd ["far", "windows", "firsts"] (spM K 3 F__fewest_at) := by
  refine gk_of (k := 1) F sc__fewest_at rfl G__fewest_at (fun cdv A below s H E hg hr => ?_) same__fewest_at
  have nd : N__fewest_at.Nodup := sc__fewest_at.nd
  have hx : Passes (L2.CX P w) (bx P w K mg base N__fewest_at "_fewest_at" s__fewest_at f cdv A below s H E) E := bx_pass
  have ho : PassesOwn (model P w) (bx P w K mg base N__fewest_at "_fewest_at" s__fewest_at f cdv A below s H E).A (bx P w K mg base N__fewest_at "_fewest_at" s__fewest_at f cdv A below s H E).env (bx P w K mg base N__fewest_at "_fewest_at" s__fewest_at f cdv A below s H E).xe := bx_own
  exact (q_cons (s_setLc 3 false rfl nd (sw_true rfl rfl rfl (by decide +kernel)) (own := [("mark", 6)]) (i_rng rfl T.m_range (x_callB b_len rfl T.m_len PySem.boot_len (a_cons (x_name 1) a_nil))) (blkOk_by (N := N__fewest_at) (sc := defScope s__fewest_at) (by decide +kernel)) (fun _ _ _ _ _ => (pw_nm 6 nd (by decide))) (fun _ _ _ _ _ => ts_nil) (fun _ _ _ _ _ => (x_call1 C__part_at hg hr g__part_at F_part_at.kp b__part_at passL (a_cons (x_name 0) (a_cons (x_name 1) (a_cons (x_name 2) (a_cons (x_name 6) a_nil)))))))
  (q_cons (s_asg (x_call1 C__meet_parts hg hr g__meet_parts F_meet_parts.kp b__meet_parts hx (a_cons (x_name 3) a_nil)) (pg_tp 2 rfl (pgs_c (pg_nm 4 nd) (pgs_c (pg_nm 5 nd) pgs_0))))
  (q_one (s_ret (x_tup (a_cons (x_callTy b_tuple rfl T.m_tuple (by decide +kernel) (a_cons (x_lc false rfl nd (own := [("top", 7)]) (i_seq (x_callB b_sort rfl T.m_sorted (by decide +kernel) (a_cons (x_name 4) a_nil))) (blkOk_by (N := N__fewest_at) (sc := defScope s__fewest_at) (by decide +kernel)) (fun _ _ _ _ _ => (pw_nm 7 nd (by decide))) (fun _ _ _ _ _ => ts_nil) (fun _ _ _ _ _ => (x_tup (a_cons (x_name 7) (a_cons (x_ix o_ix (x_name 2) (x_name 7)) a_nil))))) a_nil)) (a_cons (x_callTy b_tuple rfl T.m_tuple (by decide +kernel) (a_cons (x_callB b_sort rfl T.m_sorted (by decide +kernel) (a_cons (x_name 5) a_nil)) a_nil)) a_nil)))))))
abbrev s__pair_at : Stmt := topS 10
abbrev N__pair_at : List Str := ["far", "windows", "one", "least", "_", "other", "last"]
theorem sc__pair_at : FnScope N__pair_at ["far", "windows"] (defScope s__pair_at) := ⟨rfl, rfl, rfl, by decide +kernel, rfl, by decide +kernel, by decide +kernel⟩
theorem ok__pair_at (T : Top mg) {f : Addr} {fd : FuncData} (F : Fun K "_pair_at" "_pair_at" s__pair_at f fd) : Gk P w K mg base (L2.CX P w) 1 f fd ["far", "windows"] (spM K 2 F__pair_at) := by
  refine gk_of (k := 0) F sc__pair_at rfl G__pair_at (fun cdv A below s H E hg hr => ?_) same__pair_at
  have nd : N__pair_at.Nodup := sc__pair_at.nd
  have hx : Passes (L2.CX P w) (bx P w K mg base N__pair_at "_pair_at" s__pair_at f cdv A below s H E) E := bx_pass
  have ho : PassesOwn (model P w) (bx P w K mg base N__pair_at "_pair_at" s__pair_at f cdv A below s H E).A (bx P w K mg base N__pair_at "_pair_at" s__pair_at f cdv A below s H E).env (bx P w K mg base N__pair_at "_pair_at" s__pair_at f cdv A below s H E).xe := bx_own
  exact (q_cons (s_for ho rfl (i_enuA rfl T.m_enumerate (x_name 1)) (pg_tp 2 rfl (pgs_c (pg_nm 2 nd) (pgs_c (pg_tp 2 rfl (pgs_c (pg_nm 3 nd) (pgs_c (pg_nm 4 nd) pgs_0))) pgs_0)))
  (q_one (s_for ho rfl (i_enuA rfl T.m_enumerate (x_name 1)) (pg_tp 2 rfl (pgs_c (pg_nm 5 nd) (pgs_c (pg_tp 2 rfl (pgs_c (pg_nm 4 nd) (pgs_c (pg_nm 6 nd) pgs_0))) pgs_0)))
  (q_one (s_if (t_w (w_and (t_cmp o_isnot (x_name 6) x_non) (w_and1 (t_cmp o_gt (x_name 3) (x_bin o_add (x_name 6) (x_ix o_ix (x_ix o_ix (x_name 0) (x_name 2)) (x_name 5)))))))
  (q_one (s_ret (x_tup (a_cons (x_name 2) (a_cons (x_name 5) a_nil)))))
  q_nil)))))
  (q_one (s_ret x_non)))
abbrev s__check_some_table : Stmt := topS 12
abbrev N__check_some_table : List Str := ["far", "windows", "pair"]
theorem sc__check_some_table : FnScope N__check_some_table ["far", "windows"] (defScope s__check_some_table) := ⟨rfl, rfl, rfl, by decide +kernel, rfl, by decide +kernel, by decide +kernel⟩
theorem ok__check_some_table (T : Top mg) {f : Addr} {fd : FuncData} (F : Fun K "_check_some_table" "_check_some_table" s__check_some_table f fd) {CNoTable INoTable : Addr} (Z_NoTable : Err_NoTable.TL K mg CNoTable INoTable) {f__pair_at : Addr} {fd__pair_at : FuncData} (F_pair_at : Fun K "_pair_at" "_pair_at" s__pair_at f__pair_at fd__pair_at) (g__pair_at : mg "_pair_at" = some (.ref f__pair_at)) (b__pair_at : Binds K fd__pair_at ["far", "windows"] []) (C__pair_at : Gk P w K mg base (L2.CX P w) 1 f__pair_at fd__pair_at ["far", "windows"] (spM K 2 F__pair_at)) : Gk P w K mg base (L2.CX P w) 3 f fd ["far", "windows"] (spM K 2 F__check_some_table) := by
  refine gk_of (k := 2) F sc__check_some_table rfl G__check_some_table (fun cdv A below s H E hg hr => ?_) same__check_some_table
  have nd : N__check_some_table.Nodup := sc__check_some_table.nd
  have hx : Passes (L2.CX P w) (bx P w K mg base N__check_some_table "_check_some_table" s__check_some_table f cdv A below s H E) E := bx_pass
  have ho : PassesOwn (model P w) (bx P w K mg base N__check_some_table "_check_some_table" s__check_some_table f cdv A below s H E).A (bx P w K mg base N__check_some_table "_check_some_table" s__check_some_table f cdv A below s H E).env (bx P w K mg base N__check_some_table "_check_some_table" s__check_some_table f cdv A below s H E).xe := bx_own
  exact (q_cons (s_set 2 nd (x_call1 C__pair_at hg hr g__pair_at F_pair_at.kp b__pair_at hx (a_cons (x_name 0) (a_cons (x_name 1) a_nil))))
  (q_one (s_if (t_cmp o_isnot (x_name 2) x_non)
  (q_one (Err_NoTable.s_raise Z_NoTable rfl hr (takes_of rfl rfl rfl rfl) (x_name 2)))
  q_nil)))
abbrev s__earliest_number : Stmt := topS 13
abbrev N__earliest_number : List Str := ["ways", "windows", "way", "least", "_"]
theorem sc__earliest_number : FnScope N__earliest_number ["ways", "windows"] (defScope s__earliest_number) := ⟨rfl, rfl, rfl, by decide +kernel, rfl, by decide +kernel, by decide +kernel⟩
theorem ok__earliest_number (T : Top mg) {f : Addr} {fd : FuncData} (F : Fun K "_earliest_number" "_earliest_number" s__earliest_number f fd) : Gk P w K mg base (L2.CX P w) 1 f fd ["ways", "windows"] (spM K 2 F__earliest_number) := by
  refine gk_of (k := 0) F sc__earliest_number rfl G__earliest_number (fun cdv A below s H E hg hr => ?_) same__earliest_number
  have nd : N__earliest_number.Nodup := sc__earliest_number.nd
  have hx : Passes (L2.CX P w) (bx P w K mg base N__earliest_number "_earliest_number" s__earliest_number f cdv A below s H E) E := bx_pass
  have ho : PassesOwn (model P w) (bx P w K mg base N__earliest_number "_earliest_number" s__earliest_number f cdv A below s H E).A (bx P w K mg base N__earliest_number "_earliest_number" s__earliest_number f cdv A below s H E).env (bx P w K mg base N__earliest_number "_earliest_number" s__earliest_number f cdv A below s H E).xe := bx_own
  exact (q_one (s_ret (x_callB (b_maxA (Room.units hr)) rfl T.m_max (by decide +kernel) (a_cons (x_lc false rfl nd (own := [("way", 2), ("least", 3), ("_", 4)]) (i_zipW rfl T.m_zip (x_name 1) (x_name 0)) (blkOk_by (N := N__earliest_number) (sc := defScope s__earliest_number) (by decide +kernel)) (fun _ _ _ _ _ => (pw_tp 2 rfl (pws_c (pw_tp 2 rfl (pws_c (pw_nm 3 nd (by decide)) (pws_c (pw_nm 4 nd (by decide)) pws_0))) (pws_c (pw_nm 2 nd (by decide)) pws_0)))) (fun _ _ _ _ _ => ts_nil) (fun _ _ _ _ _ => (x_bin o_sub (x_name 3) (x_name 2)))) a_nil))))
abbrev s_earliest_at : Stmt := topS 11
abbrev N_earliest_at : List Str := ["far", "windows", "ways"]
theorem sc_earliest_at : FnScope N_earliest_at ["far", "windows"] (defScope s_earliest_at) := ⟨rfl, rfl, rfl, by decide +kernel, rfl, by decide +kernel, by decide +kernel⟩
theorem ok_earliest_at (T : Top mg) {f : Addr} {fd : FuncData} (F : Fun K "earliest_at" "earliest_at" s_earliest_at f fd) {f__check_some_table : Addr} {fd__check_some_table : FuncData} (F_check_some_table : Fun K "_check_some_table" "_check_some_table" s__check_some_table f__check_some_table fd__check_some_table) (g__check_some_table : mg "_check_some_table" = some (.ref f__check_some_table)) (b__check_some_table : Binds K fd__check_some_table ["far", "windows"] []) (C__check_some_table : Gk P w K mg base (L2.CX P w) 3 f__check_some_table fd__check_some_table ["far", "windows"] (spM K 2 F__check_some_table)) {f__earliest_number : Addr} {fd__earliest_number : FuncData} (F_earliest_number : Fun K "_earliest_number" "_earliest_number" s__earliest_number f__earliest_number fd__earliest_number) (g__earliest_number : mg "_earliest_number" = some (.ref f__earliest_number)) (b__earliest_number : Binds K fd__earliest_number ["ways", "windows"] []) (C__earliest_number : Gk P w K mg base (L2.CX P w) 1 f__earliest_number fd__earliest_number ["ways", "windows"] (spM K 2 F__earliest_number)) : Gk P w K mg base (L2.CX P w) 4 f fd ["far", "windows"] (spM K 2 F_earliest_at) := by
  refine gk_of (k := 3) F sc_earliest_at rfl G_earliest_at (fun cdv A below s H E hg hr => ?_) same_earliest_at
  have nd : N_earliest_at.Nodup := sc_earliest_at.nd
  have hx : Passes (L2.CX P w) (bx P w K mg base N_earliest_at "earliest_at" s_earliest_at f cdv A below s H E) E := bx_pass
  have ho : PassesOwn (model P w) (bx P w K mg base N_earliest_at "earliest_at" s_earliest_at f cdv A below s H E).A (bx P w K mg base N_earliest_at "earliest_at" s_earliest_at f cdv A below s H E).env (bx P w K mg base N_earliest_at "earliest_at" s_earliest_at f cdv A below s H E).xe := bx_own
  exact (q_cons (s_expr (x_call1 C__check_some_table hg hr g__check_some_table F_check_some_table.kp b__check_some_table hx (a_cons (x_name 0) (a_cons (x_name 1) a_nil))))
  (q_one (s_ret (x_callTy b_tuple rfl T.m_tuple (by decide +kernel) (a_cons (x_lc false rfl nd (own := [("ways", 2)]) (i_seq (x_name 0)) (blkOk_by (N := N_earliest_at) (sc := defScope s_earliest_at) (by decide +kernel)) (fun _ _ _ _ _ => (pw_nm 2 nd (by decide))) (fun _ _ _ _ _ => ts_nil) (fun _ _ _ _ _ => (x_call1 C__earliest_number hg hr g__earliest_number F_earliest_number.kp b__earliest_number passL (a_cons (x_name 2) (a_cons (x_name 1) a_nil))))) a_nil)))))
abbrev s_fewest_pushes : Stmt := topS 16
abbrev N_fewest_pushes : List Str := ["tree", "windows", "far"]
theorem sc_fewest_pushes : FnScope N_fewest_pushes ["tree", "windows"] (defScope s_fewest_pushes) := ⟨rfl, rfl, rfl, by decide +kernel, rfl, by decide +kernel, by decide +kernel⟩
theorem ok_fewest_pushes (T : Top mg) {f : Addr} {fd : FuncData} (F : Fun K "fewest_pushes" "fewest_pushes" s_fewest_pushes f fd) {f_distances_of : Addr} {fd_distances_of : FuncData} (Fdistances_of : Fun K "distances_of" "distances_of" s_distances_of f_distances_of fd_distances_of) (g_distances_of : mg "distances_of" = some (.ref f_distances_of)) (b_distances_of : Binds K fd_distances_of ["tree"] []) (C_distances_of : Gk P w K mg base (L2.CX P w) 1 f_distances_of fd_distances_of ["tree"] (spM K 1 F_distances_of)) {f__fewest_at : Addr} {fd__fewest_at : FuncData} (F_fewest_at : Fun K "_fewest_at" "_fewest_at" s__fewest_at f__fewest_at fd__fewest_at) (g__fewest_at : mg "_fewest_at" = some (.ref f__fewest_at)) (b__fewest_at : Binds K fd__fewest_at ["far", "windows", "firsts"] []) (C__fewest_at : Gk P w K mg base (L2.CX P w) 2 f__fewest_at fd__fewest_at ["far", "windows", "firsts"] (spM K 3 F__fewest_at)) {f_earliest_at : Addr} {fd_earliest_at : FuncData} (Fearliest_at : Fun K "earliest_at" "earliest_at" s_earliest_at f_earliest_at fd_earliest_at) (g_earliest_at : mg "earliest_at" = some (.ref f_earliest_at)) (b_earliest_at : Binds K fd_earliest_at ["far", "windows"] []) (C_earliest_at : Gk P w K mg base (L2.CX P w) 4 f_earliest_at fd_earliest_at ["far", "windows"] (spM K 2 F_earliest_at)) : Gk P w K mg base (L2.CX P w) 5 f fd ["tree", "windows"] (spM K 2 F_fewest_pushes) := by
  refine gk_of (k := 4) F sc_fewest_pushes rfl G_fewest_pushes (fun cdv A below s H E hg hr => ?_) same_fewest_pushes
  have nd : N_fewest_pushes.Nodup := sc_fewest_pushes.nd
  have hx : Passes (L2.CX P w) (bx P w K mg base N_fewest_pushes "fewest_pushes" s_fewest_pushes f cdv A below s H E) E := bx_pass
  have ho : PassesOwn (model P w) (bx P w K mg base N_fewest_pushes "fewest_pushes" s_fewest_pushes f cdv A below s H E).A (bx P w K mg base N_fewest_pushes "fewest_pushes" s_fewest_pushes f cdv A below s H E).env (bx P w K mg base N_fewest_pushes "fewest_pushes" s_fewest_pushes f cdv A below s H E).xe := bx_own
  exact (q_cons (s_set 2 nd (x_call1 C_distances_of hg hr g_distances_of Fdistances_of.kp b_distances_of hx (a_cons (x_name 0) a_nil)))
  (q_one (s_ret (x_call1 C__fewest_at hg hr g__fewest_at F_fewest_at.kp b__fewest_at hx (a_cons (x_name 2) (a_cons (x_name 1) (a_cons (x_call1 C_earliest_at hg hr g_earliest_at Fearliest_at.kp b_earliest_at hx (a_cons (x_name 2) (a_cons (x_name 1) a_nil))) a_nil)))))))
abbrev s__law_fits : Stmt := topS 30
abbrev N__law_fits : List Str := ["_law_windows_here", "_law_table", "_law_number", "_law_least", "_law_last"]
theorem sc__law_fits : FnScope N__law_fits ["_law_windows_here", "_law_table"] (defScope s__law_fits) := ⟨rfl, rfl, rfl, by decide +kernel, rfl, by decide +kernel, by decide +kernel⟩
theorem ok__law_fits (T : Top mg) {f : Addr} {fd : FuncData} (F : Fun K "_law_fits" "_law_fits" s__law_fits f fd) : Gk P w K mg base (L2.CX P w) 1 f fd ["_law_windows_here", "_law_table"] (spM K 2 F__law_fits) := by
  refine gk_of (k := 0) F sc__law_fits rfl G__law_fits (fun cdv A below s H E hg hr => ?_) same__law_fits
  have nd : N__law_fits.Nodup := sc__law_fits.nd
  have hx : Passes (L2.CX P w) (bx P w K mg base N__law_fits "_law_fits" s__law_fits f cdv A below s H E) E := bx_pass
  have ho : PassesOwn (model P w) (bx P w K mg base N__law_fits "_law_fits" s__law_fits f cdv A below s H E).A (bx P w K mg base N__law_fits "_law_fits" s__law_fits f cdv A below s H E).env (bx P w K mg base N__law_fits "_law_fits" s__law_fits f cdv A below s H E).xe := bx_own
  exact (q_cons (s_for ho rfl (i_zipW rfl T.m_zip (x_name 1) (x_name 0)) (pg_tp 2 rfl (pgs_c (pg_nm 2 nd) (pgs_c (pg_tp 2 rfl (pgs_c (pg_nm 3 nd) (pgs_c (pg_nm 4 nd) pgs_0))) pgs_0)))
  (q_one (s_if (t_w (w_or (t_cmp o_lt (x_name 2) (x_name 3)) (w_or1 (t_w (w_and (t_cmp o_isnot (x_name 4) x_non) (w_and1 (t_cmp o_gt (x_name 2) (x_name 4))))))))
  (q_one (s_ret x_bl))
  q_nil)))
  (q_one (s_ret x_bl)))
abbrev s__law_early : Stmt := topS 28
abbrev N__law_early : List Str := ["_law_tree_here", "_law_windows_here", "_law_found", "_law_mark", "_law_ticks", "_law_one"]
theorem sc__law_early : FnScope N__law_early ["_law_tree_here", "_law_windows_here"] (defScope s__law_early) := ⟨rfl, rfl, rfl, by decide +kernel, rfl, by decide +kernel, by decide +kernel⟩
theorem ok__law_early (T : Top mg) {f : Addr} {fd : FuncData} (F : Fun K "_law_early" "_law_early" s__law_early f fd) {f__law_gap : Addr} {fd__law_gap : FuncData} (F_law_gap : Fun K "_law_gap" "_law_gap" s__law_gap f__law_gap fd__law_gap) (g__law_gap : mg "_law_gap" = some (.ref f__law_gap)) (b__law_gap : Binds K fd__law_gap ["_law_tree_here", "_law_one", "_law_other"] []) (C__law_gap : Gk P w K mg base (L2.CX P w) 1 f__law_gap fd__law_gap ["_law_tree_here", "_law_one", "_law_other"] (spM K 3 F__law_gap)) : Gk P w K mg base (L2.CX P w) 2 f fd ["_law_tree_here", "_law_windows_here"] (spM K 2 F__law_early) := by
  refine gk_of (k := 1) F sc__law_early rfl G__law_early (fun cdv A below s H E hg hr => ?_) same__law_early
  have nd : N__law_early.Nodup := sc__law_early.nd
  have hx : Passes (L2.CX P w) (bx P w K mg base N__law_early "_law_early" s__law_early f cdv A below s H E) E := bx_pass
  have ho : PassesOwn (model P w) (bx P w K mg base N__law_early "_law_early" s__law_early f cdv A below s H E).A (bx P w K mg base N__law_early "_law_early" s__law_early f cdv A below s H E).env (bx P w K mg base N__law_early "_law_early" s__law_early f cdv A below s H E).xe := bx_own
  exact (q_cons (s_set 2 nd (x_lst true a_nil))
  (q_cons (s_for ho rfl (i_rng rfl T.m_range (x_callB b_len rfl T.m_len PySem.boot_len (a_cons (x_name 1) a_nil))) (pg_nm 3 nd)
  (q_cons (s_set 4 nd (x_lst true (a_cons x_int a_nil)))
  (q_cons (s_for ho rfl (i_rng rfl T.m_range (x_callB b_len rfl T.m_len PySem.boot_len (a_cons (x_name 1) a_nil))) (pg_nm 5 nd)
  (q_one (s_expr (x_append (x_name 4) (x_bin o_sub (x_ix o_ix (x_ix o_ix (x_name 1) (x_name 5)) x_int) (x_call1 C__law_gap hg hr g__law_gap F_law_gap.kp b__law_gap hx (a_cons (x_name 0) (a_cons (x_name 5) (a_cons (x_name 3) a_nil)))))))))
  (q_one (s_expr (x_append (x_name 2) (x_callB (b_maxA (Room.units hr)) rfl T.m_max (by decide +kernel) (a_cons (x_name 4) a_nil))))))))
  (q_one (s_ret (x_callTy b_tuple rfl T.m_tuple (by decide +kernel) (a_cons (x_name 2) a_nil))))))
abbrev s__law_part : Stmt := topS 29
abbrev N__law_part : List Str := ["_law_tree_here", "_law_windows_here", "_law_mark", "_law_found", "_law_one", "_law_early_here", "_law_last"]
theorem sc__law_part : FnScope N__law_part ["_law_tree_here", "_law_windows_here", "_law_mark"] (defScope s__law_part) := ⟨rfl, rfl, rfl, by decide +kernel, rfl, by decide +kernel, by decide +kernel⟩
theorem ok__law_part (T : Top mg) {f : Addr} {fd : FuncData} (F : Fun K "_law_part" "_law_part" s__law_part f fd) {f__law_early : Addr} {fd__law_early : FuncData} (F_law_early : Fun K "_law_early" "_law_early" s__law_early f__law_early fd__law_early) (g__law_early : mg "_law_early" = some (.ref f__law_early)) (b__law_early : Binds K fd__law_early ["_law_tree_here", "_law_windows_here"] []) (C__law_early : Gk P w K mg base (L2.CX P w) 2 f__law_early fd__law_early ["_law_tree_here", "_law_windows_here"] (spM K 2 F__law_early)) {f__law_gap : Addr} {fd__law_gap : FuncData} (F_law_gap : Fun K "_law_gap" "_law_gap" s__law_gap f__law_gap fd__law_gap) (g__law_gap : mg "_law_gap" = some (.ref f__law_gap)) (b__law_gap : Binds K fd__law_gap ["_law_tree_here", "_law_one", "_law_other"] []) (C__law_gap : Gk P w K mg base (L2.CX P w) 1 f__law_gap fd__law_gap ["_law_tree_here", "_law_one", "_law_other"] (spM K 3 F__law_gap)) : Gk P w K mg base (L2.CX P w) 3 f fd ["_law_tree_here", "_law_windows_here", "_law_mark"] (spM K 3 F__law_part) := by
  refine gk_of (k := 2) F sc__law_part rfl G__law_part (fun cdv A below s H E hg hr => ?_) same__law_part
  have nd : N__law_part.Nodup := sc__law_part.nd
  have hx : Passes (L2.CX P w) (bx P w K mg base N__law_part "_law_part" s__law_part f cdv A below s H E) E := bx_pass
  have ho : PassesOwn (model P w) (bx P w K mg base N__law_part "_law_part" s__law_part f cdv A below s H E).A (bx P w K mg base N__law_part "_law_part" s__law_part f cdv A below s H E).env (bx P w K mg base N__law_part "_law_part" s__law_part f cdv A below s H E).xe := bx_own
  exact (q_cons (s_par 5 6 rfl nd (a_cons (x_call1 C__law_early hg hr g__law_early F_law_early.kp b__law_early hx (a_cons (x_name 0) (a_cons (x_name 1) a_nil))) (a_cons (x_ix o_ix (x_ix o_ix (x_name 1) (x_name 2)) x_int) a_nil)) (by first | rfl | with_unfolding_all rfl))
  (q_cons (s_set 3 nd (x_lst true a_nil))
  (q_cons (s_for ho rfl (i_rng rfl T.m_range (x_callB b_len rfl T.m_len PySem.boot_len (a_cons (x_name 1) a_nil))) (pg_nm 4 nd)
  (q_one (s_if (t_w (w_or (t_cmp o_is (x_name 6) x_non) (w_or1 (t_cmp o_le (x_bin o_add (x_ix o_ix (x_name 5) (x_name 4)) (x_call1 C__law_gap hg hr g__law_gap F_law_gap.kp b__law_gap hx (a_cons (x_name 0) (a_cons (x_name 4) (a_cons (x_name 2) a_nil))))) (x_name 6)))))
  (q_one (s_expr (x_append (x_name 3) (x_name 4))))
  q_nil)))
  (q_one (s_ret (x_callTy b_tuple rfl T.m_tuple (by decide +kernel) (a_cons (x_name 3) a_nil)))))))
abbrev s__law_apart : Stmt := topS 31
abbrev N__law_apart : List Str := ["_law_tree_here", "_law_windows_here", "_law_marks", "_law_found", "_law_mark"]
theorem sc__law_apart : FnScope N__law_apart ["_law_tree_here", "_law_windows_here", "_law_marks"] (defScope s__law_apart) := ⟨rfl, rfl, rfl, by decide +kernel, rfl, by decide +kernel, by decide +kernel⟩
theorem ok__law_apart (T : Top mg) {f : Addr} {fd : FuncData} (F : Fun K "_law_apart" "_law_apart" s__law_apart f fd) {f__law_part : Addr} {fd__law_part : FuncData} (F_law_part : Fun K "_law_part" "_law_part" s__law_part f__law_part fd__law_part) (g__law_part : mg "_law_part" = some (.ref f__law_part)) (b__law_part : Binds K fd__law_part ["_law_tree_here", "_law_windows_here", "_law_mark"] []) (C__law_part : Gk P w K mg base (L2.CX P w) 3 f__law_part fd__law_part ["_law_tree_here", "_law_windows_here", "_law_mark"] (spM K 3 F__law_part)) : Gk P w K mg base (L2.CX P w) 4 f fd ["_law_tree_here", "_law_windows_here", "_law_marks"] (spM K 3 F__law_apart) := by
  refine gk_of (k := 3) F sc__law_apart rfl G__law_apart (fun cdv A below s H E hg hr => ?_) same__law_apart
  have nd : N__law_apart.Nodup := sc__law_apart.nd
  have hx : Passes (L2.CX P w) (bx P w K mg base N__law_apart "_law_apart" s__law_apart f cdv A below s H E) E := bx_pass
  have ho : PassesOwn (model P w) (bx P w K mg base N__law_apart "_law_apart" s__law_apart f cdv A below s H E).A (bx P w K mg base N__law_apart "_law_apart" s__law_apart f cdv A below s H E).env (bx P w K mg base N__law_apart "_law_apart" s__law_apart f cdv A below s H E).xe := bx_own
  exact (q_cons (s_set 3 nd (x_lst false a_nil))
  (q_cons (s_for ho rfl (i_seq (x_name 2)) (pg_nm 4 nd)
  (q_one (s_set 3 nd (x_bin o_add (x_name 3) (x_callTy b_list rfl T.m_list (by decide +kernel) (a_cons (x_call1 C__law_part hg hr g__law_part F_law_part.kp b__law_part hx (a_cons (x_name 0) (a_cons (x_name 1) (a_cons (x_name 4) a_nil)))) a_nil))))))
  (q_one (s_ret (x_cmp (o_eq (Room.units hr)) (x_lenSet T.m_len T.m_set (x_name 3)) (x_callB b_len rfl T.m_len PySem.boot_len (a_cons (x_name 3) a_nil)))))))
abbrev s__law_right : Stmt := topS 33
abbrev N__law_right : List Str := ["_law_tree_here", "_law_windows_here", "_law_found", "_law_pushes_here", "_law_marks"]
theorem sc__law_right : FnScope N__law_right ["_law_tree_here", "_law_windows_here", "_law_found"] (defScope s__law_right) := ⟨rfl, rfl, rfl, by decide +kernel, rfl, by decide +kernel, by decide +kernel⟩
theorem ok__law_right (T : Top mg) {f : Addr} {fd : FuncData} (F : Fun K "_law_right" "_law_right" s__law_right f fd) {f__law_fits : Addr} {fd__law_fits : FuncData} (F_law_fits : Fun K "_law_fits" "_law_fits" s__law_fits f__law_fits fd__law_fits) (g__law_fits : mg "_law_fits" = some (.ref f__law_fits)) (b__law_fits : Binds K fd__law_fits ["_law_windows_here", "_law_table"] []) (C__law_fits : Gk P w K mg base (L2.CX P w) 1 f__law_fits fd__law_fits ["_law_windows_here", "_law_table"] (spM K 2 F__law_fits)) {f__law_falls : Addr} {fd__law_falls : FuncData} (F_law_falls : Fun K "_law_falls" "_law_falls" s__law_falls f__law_falls fd__law_falls) (g__law_falls : mg "_law_falls" = some (.ref f__law_falls)) (b__law_falls : Binds K fd__law_falls ["_law_tree_here", "_law_pushes_here"] []) (C__law_falls : Gk P w K mg base (L2.CX P w) 2 f__law_falls fd__law_falls ["_law_tree_here", "_law_pushes_here"] (spM K 2 F__law_falls)) {f__law_apart : Addr} {fd__law_apart : FuncData} (F_law_apart : Fun K "_law_apart" "_law_apart" s__law_apart f__law_apart fd__law_apart) (g__law_apart : mg "_law_apart" = some (.ref f__law_apart)) (b__law_apart : Binds K fd__law_apart ["_law_tree_here", "_law_windows_here", "_law_marks"] []) (C__law_apart : Gk P w K mg base (L2.CX P w) 4 f__law_apart fd__law_apart ["_law_tree_here", "_law_windows_here", "_law_marks"] (spM K 3 F__law_apart)) : Gk P w K mg base (L2.CX P w) 5 f fd ["_law_tree_here", "_law_windows_here", "_law_found"] (spM K 3 F__law_right) := by
  refine gk_of (k := 4) F sc__law_right rfl G__law_right (fun cdv A below s H E hg hr => ?_) same__law_right
  have nd : N__law_right.Nodup := sc__law_right.nd
  have hx : Passes (L2.CX P w) (bx P w K mg base N__law_right "_law_right" s__law_right f cdv A below s H E) E := bx_pass
  have ho : PassesOwn (model P w) (bx P w K mg base N__law_right "_law_right" s__law_right f cdv A below s H E).A (bx P w K mg base N__law_right "_law_right" s__law_right f cdv A below s H E).env (bx P w K mg base N__law_right "_law_right" s__law_right f cdv A below s H E).xe := bx_own
  exact (q_cons (s_if (t_w (w_or (t_not (t_val (x_isi rfl T.m_isinstance PyProof.Rows.boot_isinstance rfl T.m_tuple (by decide +kernel) (x_name 2)))) (w_or1 (t_cmp (o_ne (Room.units hr)) (x_callB b_len rfl T.m_len PySem.boot_len (a_cons (x_name 2) a_nil)) x_int))))
  (q_one (s_ret x_bl))
  q_nil)
  (q_cons (s_asg (x_name 2) (pg_tp 2 rfl (pgs_c (pg_nm 3 nd) (pgs_c (pg_nm 4 nd) pgs_0))))
  (q_cons (s_if (t_w (w_or (t_not (t_val (x_isi rfl T.m_isinstance PyProof.Rows.boot_isinstance rfl T.m_tuple (by decide +kernel) (x_name 3)))) (w_or1 (t_not (t_val (x_isi rfl T.m_isinstance PyProof.Rows.boot_isinstance rfl T.m_tuple (by decide +kernel) (x_name 4)))))))
  (q_one (s_ret x_bl))
  q_nil)
  (q_cons (s_if (t_w (w_or (t_cmp (o_ne (Room.units hr)) (x_callB b_len rfl T.m_len PySem.boot_len (a_cons (x_name 3) a_nil)) (x_callB b_len rfl T.m_len PySem.boot_len (a_cons (x_name 4) a_nil))) (w_or1 (t_cmp (o_eq (Room.units hr)) (x_name 4) (x_tup a_nil)))))
  (q_one (s_ret x_bl))
  q_nil)
  (q_cons (s_if (t_w (w_or (t_cmp (o_ne (Room.units hr)) (x_callTy b_list rfl T.m_list (by decide +kernel) (a_cons (x_name 3) a_nil)) (x_sortSet (Room.units hr) T.m_sorted T.m_set (x_name 3))) (w_or1 (t_cmp (o_ne (Room.units hr)) (x_callTy b_list rfl T.m_list (by decide +kernel) (a_cons (x_name 4) a_nil)) (x_sortSet (Room.units hr) T.m_sorted T.m_set (x_name 4))))))
  (q_one (s_ret x_bl))
  q_nil)
  (q_one (s_ret (x_and (x_call1 C__law_apart hg hr g__law_apart F_law_apart.kp b__law_apart hx (a_cons (x_name 0) (a_cons (x_name 1) (a_cons (x_name 4) a_nil)))) (x_one (x_call1 C__law_fits hg hr g__law_fits F_law_fits.kp b__law_fits hx (a_cons (x_name 1) (a_cons (x_call1 C__law_falls hg hr g__law_falls F_law_falls.kp b__law_falls hx (a_cons (x_name 0) (a_cons (x_name 3) a_nil))) a_nil))))))))))))
abbrev s__law_told : Stmt := topS 32
abbrev N__law_told : List Str := ["_law_call", "_law_found", "e"]
theorem sc__law_told : FnScope N__law_told ["_law_call"] (defScope s__law_told) := ⟨rfl, rfl, rfl, by decide +kernel, rfl, by decide +kernel, by decide +kernel⟩
abbrev lamQ : Str := (("law" : Str) ++ ".<locals>.") ++ "<lambda>"
theorem gives__law_told {X : Cx} {g C CF cT cC b1 b2 b3 : Addr} {tb : Bool} (Z : ToldZ X.K X.mg C CF cT cC b1 b2 b3 tb) (cdv : Value) (q : Str) : GivesG X N_told "_law_told" (defScope s__law_told) g cdv (defBody s__law_told) "_law_call" q (TTold C tb) := told_givesP Z (.inl rfl) (.inl rfl) (.inl rfl) (.inl rfl) rfl rfl (by decide +kernel)
abbrev s_law : Stmt := topS 34
abbrev N_law : List Str := ["_law_script", "_law_drawn", "_law_turn", "_law_tree_here", "_law_windows_here", "_law_told_here", "_law_before", "_law_pair_here", "_law_again"]
theorem sc_law : FnScope N_law ["_law_script"] (defScope s_law) := ⟨rfl, rfl, rfl, by decide +kernel, rfl, by decide +kernel, by decide +kernel⟩
theorem ok_law (T : Top mg) {f : Addr} {fd : FuncData} (F : Fun K "law" "law" s_law f fd) {CNoTable INoTable : Addr} (Z_NoTable : Err_NoTable.TL K mg CNoTable INoTable) {f_law_told : Addr} {fd_law_told : FuncData} (F_law_told : Fun K "_law_told" "_law_told" s__law_told f_law_told fd_law_told) (g_law_told : mg "_law_told" = some (.ref f_law_told)) (b_law_told : Binds K fd_law_told ["_law_call"] []) {CF cT cC b1 b2 b3 : Addr} (Zt : ToldZ K mg CNoTable CF cT cC b1 b2 b3 true) {cc DD : Addr} (TBl : LamX.TabB base mg cc DD) (hlC : fd.code = .ref cc) (hlT : lamT = [(DD, lamQ)]) {f__law_draws : Addr} {fd__law_draws : FuncData} (F_law_draws : Fun K "_law_draws" "_law_draws" s__law_draws f__law_draws fd__law_draws) (g__law_draws : mg "_law_draws" = some (.ref f__law_draws)) (b__law_draws : Binds K fd__law_draws ["_law_script"] []) (C__law_draws : Gk P w K mg base (L2.CX P w) 1 f__law_draws fd__law_draws ["_law_script"] (spM K 1 F__law_draws)) {f__law_tree : Addr} {fd__law_tree : FuncData} (F_law_tree : Fun K "_law_tree" "_law_tree" s__law_tree f__law_tree fd__law_tree) (g__law_tree : mg "_law_tree" = some (.ref f__law_tree)) (b__law_tree : Binds K fd__law_tree ["_law_drawn", "_law_most", "_law_long"] []) (C__law_tree : Gk P w K mg base (L2.CX P w) 2 f__law_tree fd__law_tree ["_law_drawn", "_law_most", "_law_long"] (spM K 3 F__law_tree)) {f__law_windows : Addr} {fd__law_windows : FuncData} (F_law_windows : Fun K "_law_windows" "_law_windows" s__law_windows f__law_windows fd__law_windows) (g__law_windows : mg "_law_windows" = some (.ref f__law_windows)) (b__law_windows : Binds K fd__law_windows ["_law_drawn", "_law_tree_here", "_law_late"] []) (C__law_windows : Gk P w K mg base (L2.CX P w) 3 f__law_windows fd__law_windows ["_law_drawn", "_law_tree_here", "_law_late"] (spM K 3 F__law_windows)) {f__law_pair : Addr} {fd__law_pair : FuncData} (F_law_pair : Fun K "_law_pair" "_law_pair" s__law_pair f__law_pair fd__law_pair) (g__law_pair : mg "_law_pair" = some (.ref f__law_pair)) (b__law_pair : Binds K fd__law_pair ["_law_tree_here", "_law_windows_here"] []) (C__law_pair : Gk P w K mg base (L2.CX P w) 2 f__law_pair fd__law_pair ["_law_tree_here", "_law_windows_here"] (spM K 2 F__law_pair)) {f_fewest_pushes : Addr} {fd_fewest_pushes : FuncData} (Ffewest_pushes : Fun K "fewest_pushes" "fewest_pushes" s_fewest_pushes f_fewest_pushes fd_fewest_pushes) (g_fewest_pushes : mg "fewest_pushes" = some (.ref f_fewest_pushes)) (b_fewest_pushes : Binds K fd_fewest_pushes ["tree", "windows"] []) (C_fewest_pushes : Gk P w K mg base (L2.CX P w) 5 f_fewest_pushes fd_fewest_pushes ["tree", "windows"] (spM K 2 F_fewest_pushes)) {f__law_right : Addr} {fd__law_right : FuncData} (F_law_right : Fun K "_law_right" "_law_right" s__law_right f__law_right fd__law_right) (g__law_right : mg "_law_right" = some (.ref f__law_right)) (b__law_right : Binds K fd__law_right ["_law_tree_here", "_law_windows_here", "_law_found"] []) (C__law_right : Gk P w K mg base (L2.CX P w) 5 f__law_right fd__law_right ["_law_tree_here", "_law_windows_here", "_law_found"] (spM K 3 F__law_right)) : Gk P w K mg base (L2.CX P w) 8 f fd ["_law_script"] (spM K 1 F_law) := by
  refine gk_stripC (k := 7) (l := 9) F sc_law rfl rfl hlC G_law (fun A below s H E hg hr => ?_)
  have nd : N_law.Nodup := sc_law.nd
  have hx : Passes (L2.CX P w) (bx P w K mg base N_law "law" s_law f (.ref cc) A below s H E) E := bx_pass
  have ho : PassesOwn (model P w) (bx P w K mg base N_law "law" s_law f (.ref cc) A below s H E).A (bx P w K mg base N_law "law" s_law f (.ref cc) A below s H E).env (bx P w K mg base N_law "law" s_law f (.ref cc) A below s H E).xe := bx_own
  have hGt : ∀ cdv, GivesG (bx P w K mg base N_law "law" s_law f (.ref cc) A below s H E) N_told "_law_told" (defScope s__law_told) f_law_told cdv (defBody s__law_told) "_law_call" ((bx P w K mg base N_law "law" s_law f (.ref cc) A below s H E).env.qual ++ "<lambda>") (TTold CNoTable true) := fun _ => gives__law_told Zt _ _
  have hTt : lamT = [(DD, (bx P w K mg base N_law "law" s_law f (.ref cc) A below s H E).env.qual ++ "<lambda>")] := hlT
  exact (q_cons (s_set 1 nd (x_call1 C__law_draws hg hr g__law_draws F_law_draws.kp b__law_draws hx (a_cons (x_name 0) a_nil)))
  (q_cons (s_for ho rfl (i_rng rfl T.m_range x_int) (pg_nm 2 nd)
  (q_cons (s_set 3 nd (x_call1 C__law_tree hg hr g__law_tree F_law_tree.kp b__law_tree hx (a_cons (x_name 1) (a_cons x_int (a_cons (x_ix o_ix (x_lst false (a_cons x_int (a_cons (x_bin o_pow x_int x_int) a_nil))) (x_bin o_mod (x_name 2) x_int)) a_nil)))))
  (q_cons (s_set 4 nd (x_call1 C__law_windows hg hr g__law_windows F_law_windows.kp b__law_windows hx (a_cons (x_name 1) (a_cons (x_name 3) (a_cons (x_ix o_ix (x_lst false (a_cons x_int (a_cons (x_bin o_pow x_int x_int) a_nil))) (x_bin o_mod (x_name 2) x_int)) a_nil)))))
  (q_cons (s_par 6 7 rfl nd (a_cons (x_callB (b_repr hg (Room.units hr)) rfl T.m_repr (by decide +kernel) (a_cons (x_lst false (a_cons (x_name 3) (a_cons (x_name 4) a_nil))) a_nil)) (a_cons (x_call1 C__law_pair hg hr g__law_pair F_law_pair.kp b__law_pair hx (a_cons (x_name 3) (a_cons (x_name 4) a_nil))) a_nil)) (by first | rfl | with_unfolding_all rfl))
  (q_cons (s_setLc 5 false rfl nd (sw_true rfl rfl rfl (by decide +kernel)) (own := [("_law_again", 8)]) (i_rng rfl T.m_range x_int) (blkOk_by (N := N_law) (sc := defScope s_law) (by decide +kernel)) (fun _ _ _ _ _ => (pw_nm 8 nd (by decide))) (fun _ _ _ _ _ => ts_nil) (fun _ _ _ _ _ => (x_told (tb := true) F_law_told g_law_told b_law_told sc__law_told (fun _ => gives__law_told Zt _ _) Z_NoTable.nC rfl TBl rfl hTt hg hr (lamS_blk (sc := defScope s_law) rfl (by decide +kernel)) (fun _ _ _ _ _ _ _ hg hr => (x_call1 C_fewest_pushes hg hr g_fewest_pushes Ffewest_pushes.kp b_fewest_pushes lam_pass (a_cons (x_name 3) (a_cons (x_name 4) a_nil)))))))
  (q_cons (s_if (t_w (w_or (t_cmp (o_ne (Room.units hr)) (x_callB (b_repr hg (Room.units hr)) rfl T.m_repr (by decide +kernel) (a_cons (x_ix o_ix (x_name 5) x_int) a_nil)) (x_callB (b_repr hg (Room.units hr)) rfl T.m_repr (by decide +kernel) (a_cons (x_ix o_ix (x_name 5) x_int) a_nil))) (w_or1 (t_cmp (o_ne (Room.units hr)) (x_callB (b_repr hg (Room.units hr)) rfl T.m_repr (by decide +kernel) (a_cons (x_lst false (a_cons (x_name 3) (a_cons (x_name 4) a_nil))) a_nil)) (x_name 6)))))
  (q_one (s_ret x_bl))
  q_nil)
  (q_one (s_if (t_cmp o_isnot (x_name 7) x_non)
  (q_one (s_if (t_cmp (o_ne (Room.units hr)) (x_callB (b_repr hg (Room.units hr)) rfl T.m_repr (by decide +kernel) (a_cons (x_ix o_ix (x_name 5) x_int) a_nil)) (x_callB (b_repr hg (Room.units hr)) rfl T.m_repr (by decide +kernel) (a_cons (x_lst false (a_cons x_str (a_cons (x_name 7) a_nil))) a_nil)))
  (q_one (s_ret x_bl))
  q_nil))
  (q_one (s_if (t_w (w_or (t_cmp (o_ne (Room.units hr)) (x_ix o_ix (x_ix o_ix (x_name 5) x_int) x_int) x_str) (w_or1 (t_not (t_val (x_call1 C__law_right hg hr g__law_right F_law_right.kp b__law_right hx (a_cons (x_name 3) (a_cons (x_name 4) (a_cons (x_ix o_ix (x_ix o_ix (x_name 5) x_int) x_int) a_nil)))))))))
  (q_one (s_ret x_bl))
  q_nil))))))))))
  (q_one (s_ret x_bl))))
theorem all_mk {l : PySem.W.OpenLaw} {w : World} {K : PySem.W.Frag} {h : Heap} {mg : Str → Option Value} {fa : Addr} (X : K.In h) (G : h.Ns mainGlobals mg) (hfa : mg "law" = some (.ref fa))
    {f_law_draws : Addr} {od_law_draws an_law_draws : Option Addr} {sl_law_draws : Array (Option Value)} {oc_law_draws kV_law_draws dc_law_draws pm_law_draws cd_law_draws ct_law_draws : Value}
    (a_law_draws : PySem.W.nsIn K mainGlobals "_law_draws" = some (some (.ref f_law_draws))) (l_law_draws : K.lookup f_law_draws = some ⟨oc_law_draws, od_law_draws, .func (PySem.W.fnOf "_law_draws" "_law_draws" (defArgs s__law_draws) (defBody s__law_draws) (defScope s__law_draws) .none kV_law_draws dc_law_draws pm_law_draws an_law_draws cd_law_draws ct_law_draws), sl_law_draws⟩) (c_law_draws : PySem.W.codeIn K cd_law_draws "_law_draws" = true) (k_law_draws : PySem.W.keepIn K (.ref f_law_draws) = true)
    {f_law_next : Addr} {od_law_next an_law_next : Option Addr} {sl_law_next : Array (Option Value)} {oc_law_next kV_law_next dc_law_next pm_law_next cd_law_next ct_law_next : Value}
    (a_law_next : PySem.W.nsIn K mainGlobals "_law_next" = some (some (.ref f_law_next))) (l_law_next : K.lookup f_law_next = some ⟨oc_law_next, od_law_next, .func (PySem.W.fnOf "_law_next" "_law_next" (defArgs s__law_next) (defBody s__law_next) (defScope s__law_next) .none kV_law_next dc_law_next pm_law_next an_law_next cd_law_next ct_law_next), sl_law_next⟩) (c_law_next : PySem.W.codeIn K cd_law_next "_law_next" = true) (k_law_next : PySem.W.keepIn K (.ref f_law_next) = true)
    {f_law_tree : Addr} {od_law_tree an_law_tree : Option Addr} {sl_law_tree : Array (Option Value)} {oc_law_tree kV_law_tree dc_law_tree pm_law_tree cd_law_tree ct_law_tree : Value}
    (a_law_tree : PySem.W.nsIn K mainGlobals "_law_tree" = some (some (.ref f_law_tree))) (l_law_tree : K.lookup f_law_tree = some ⟨oc_law_tree, od_law_tree, .func (PySem.W.fnOf "_law_tree" "_law_tree" (defArgs s__law_tree) (defBody s__law_tree) (defScope s__law_tree) .none kV_law_tree dc_law_tree pm_law_tree an_law_tree cd_law_tree ct_law_tree), sl_law_tree⟩) (c_law_tree : PySem.W.codeIn K cd_law_tree "_law_tree" = true) (k_law_tree : PySem.W.keepIn K (.ref f_law_tree) = true)
    {f_law_gap : Addr} {od_law_gap an_law_gap : Option Addr} {sl_law_gap : Array (Option Value)} {oc_law_gap kV_law_gap dc_law_gap pm_law_gap cd_law_gap ct_law_gap : Value}
    (a_law_gap : PySem.W.nsIn K mainGlobals "_law_gap" = some (some (.ref f_law_gap))) (l_law_gap : K.lookup f_law_gap = some ⟨oc_law_gap, od_law_gap, .func (PySem.W.fnOf "_law_gap" "_law_gap" (defArgs s__law_gap) (defBody s__law_gap) (defScope s__law_gap) .none kV_law_gap dc_law_gap pm_law_gap an_law_gap cd_law_gap ct_law_gap), sl_law_gap⟩) (c_law_gap : PySem.W.codeIn K cd_law_gap "_law_gap" = true) (k_law_gap : PySem.W.keepIn K (.ref f_law_gap) = true)
    {f_law_falls : Addr} {od_law_falls an_law_falls : Option Addr} {sl_law_falls : Array (Option Value)} {oc_law_falls kV_law_falls dc_law_falls pm_law_falls cd_law_falls ct_law_falls : Value}
    (a_law_falls : PySem.W.nsIn K mainGlobals "_law_falls" = some (some (.ref f_law_falls))) (l_law_falls : K.lookup f_law_falls = some ⟨oc_law_falls, od_law_falls, .func (PySem.W.fnOf "_law_falls" "_law_falls" (defArgs s__law_falls) (defBody s__law_falls) (defScope s__law_falls) .none kV_law_falls dc_law_falls pm_law_falls an_law_falls cd_law_falls ct_law_falls), sl_law_falls⟩) (c_law_falls : PySem.W.codeIn K cd_law_falls "_law_falls" = true) (k_law_falls : PySem.W.keepIn K (.ref f_law_falls) = true)
    {f_law_pushes : Addr} {od_law_pushes an_law_pushes : Option Addr} {sl_law_pushes : Array (Option Value)} {oc_law_pushes kV_law_pushes dc_law_pushes pm_law_pushes cd_law_pushes ct_law_pushes : Value}
    (a_law_pushes : PySem.W.nsIn K mainGlobals "_law_pushes" = some (some (.ref f_law_pushes))) (l_law_pushes : K.lookup f_law_pushes = some ⟨oc_law_pushes, od_law_pushes, .func (PySem.W.fnOf "_law_pushes" "_law_pushes" (defArgs s__law_pushes) (defBody s__law_pushes) (defScope s__law_pushes) .none kV_law_pushes dc_law_pushes pm_law_pushes an_law_pushes cd_law_pushes ct_law_pushes), sl_law_pushes⟩) (c_law_pushes : PySem.W.codeIn K cd_law_pushes "_law_pushes" = true) (k_law_pushes : PySem.W.keepIn K (.ref f_law_pushes) = true)
    {f_law_windows : Addr} {od_law_windows an_law_windows : Option Addr} {sl_law_windows : Array (Option Value)} {oc_law_windows kV_law_windows dc_law_windows pm_law_windows cd_law_windows ct_law_windows : Value}
    (a_law_windows : PySem.W.nsIn K mainGlobals "_law_windows" = some (some (.ref f_law_windows))) (l_law_windows : K.lookup f_law_windows = some ⟨oc_law_windows, od_law_windows, .func (PySem.W.fnOf "_law_windows" "_law_windows" (defArgs s__law_windows) (defBody s__law_windows) (defScope s__law_windows) .none kV_law_windows dc_law_windows pm_law_windows an_law_windows cd_law_windows ct_law_windows), sl_law_windows⟩) (c_law_windows : PySem.W.codeIn K cd_law_windows "_law_windows" = true) (k_law_windows : PySem.W.keepIn K (.ref f_law_windows) = true)
    {f_law_pair : Addr} {od_law_pair an_law_pair : Option Addr} {sl_law_pair : Array (Option Value)} {oc_law_pair kV_law_pair dc_law_pair pm_law_pair cd_law_pair ct_law_pair : Value}
    (a_law_pair : PySem.W.nsIn K mainGlobals "_law_pair" = some (some (.ref f_law_pair))) (l_law_pair : K.lookup f_law_pair = some ⟨oc_law_pair, od_law_pair, .func (PySem.W.fnOf "_law_pair" "_law_pair" (defArgs s__law_pair) (defBody s__law_pair) (defScope s__law_pair) .none kV_law_pair dc_law_pair pm_law_pair an_law_pair cd_law_pair ct_law_pair), sl_law_pair⟩) (c_law_pair : PySem.W.codeIn K cd_law_pair "_law_pair" = true) (k_law_pair : PySem.W.keepIn K (.ref f_law_pair) = true)
    {fdistances_of : Addr} {oddistances_of andistances_of : Option Addr} {sldistances_of : Array (Option Value)} {ocdistances_of kVdistances_of dcdistances_of pmdistances_of cddistances_of ctdistances_of : Value}
    (adistances_of : PySem.W.nsIn K mainGlobals "distances_of" = some (some (.ref fdistances_of))) (ldistances_of : K.lookup fdistances_of = some ⟨ocdistances_of, oddistances_of, .func (PySem.W.fnOf "distances_of" "distances_of" (defArgs s_distances_of) (defBody s_distances_of) (defScope s_distances_of) .none kVdistances_of dcdistances_of pmdistances_of andistances_of cddistances_of ctdistances_of), sldistances_of⟩) (cdistances_of : PySem.W.codeIn K cddistances_of "distances_of" = true) (kdistances_of : PySem.W.keepIn K (.ref fdistances_of) = true)
    {f_part_at : Addr} {od_part_at an_part_at : Option Addr} {sl_part_at : Array (Option Value)} {oc_part_at kV_part_at dc_part_at pm_part_at cd_part_at ct_part_at : Value}
    (a_part_at : PySem.W.nsIn K mainGlobals "_part_at" = some (some (.ref f_part_at))) (l_part_at : K.lookup f_part_at = some ⟨oc_part_at, od_part_at, .func (PySem.W.fnOf "_part_at" "_part_at" (defArgs s__part_at) (defBody s__part_at) (defScope s__part_at) .none kV_part_at dc_part_at pm_part_at an_part_at cd_part_at ct_part_at), sl_part_at⟩) (c_part_at : PySem.W.codeIn K cd_part_at "_part_at" = true) (k_part_at : PySem.W.keepIn K (.ref f_part_at) = true)
    {f_meet_parts : Addr} {od_meet_parts an_meet_parts : Option Addr} {sl_meet_parts : Array (Option Value)} {oc_meet_parts kV_meet_parts dc_meet_parts pm_meet_parts cd_meet_parts ct_meet_parts : Value}
    (a_meet_parts : PySem.W.nsIn K mainGlobals "_meet_parts" = some (some (.ref f_meet_parts))) (l_meet_parts : K.lookup f_meet_parts = some ⟨oc_meet_parts, od_meet_parts, .func (PySem.W.fnOf "_meet_parts" "_meet_parts" (defArgs s__meet_parts) (defBody s__meet_parts) (defScope s__meet_parts) .none kV_meet_parts dc_meet_parts pm_meet_parts an_meet_parts cd_meet_parts ct_meet_parts), sl_meet_parts⟩) (c_meet_parts : PySem.W.codeIn K cd_meet_parts "_meet_parts" = true) (k_meet_parts : PySem.W.keepIn K (.ref f_meet_parts) = true)
    {f_fewest_at : Addr} {od_fewest_at an_fewest_at : Option Addr} {sl_fewest_at : Array (Option Value)} {oc_fewest_at kV_fewest_at dc_fewest_at pm_fewest_at cd_fewest_at ct_fewest_at : Value}
    (a_fewest_at : PySem.W.nsIn K mainGlobals "_fewest_at" = some (some (.ref f_fewest_at))) (l_fewest_at : K.lookup f_fewest_at = some ⟨oc_fewest_at, od_fewest_at, .func (PySem.W.fnOf "_fewest_at" "_fewest_at" (defArgs s__fewest_at) (defBody s__fewest_at) (defScope s__fewest_at) .none kV_fewest_at dc_fewest_at pm_fewest_at an_fewest_at cd_fewest_at ct_fewest_at), sl_fewest_at⟩) (c_fewest_at : PySem.W.codeIn K cd_fewest_at "_fewest_at" = true) (k_fewest_at : PySem.W.keepIn K (.ref f_fewest_at) = true)
    {f_pair_at : Addr} {od_pair_at an_pair_at : Option Addr} {sl_pair_at : Array (Option Value)} {oc_pair_at kV_pair_at dc_pair_at pm_pair_at cd_pair_at ct_pair_at : Value}
    (a_pair_at : PySem.W.nsIn K mainGlobals "_pair_at" = some (some (.ref f_pair_at))) (l_pair_at : K.lookup f_pair_at = some ⟨oc_pair_at, od_pair_at, .func (PySem.W.fnOf "_pair_at" "_pair_at" (defArgs s__pair_at) (defBody s__pair_at) (defScope s__pair_at) .none kV_pair_at dc_pair_at pm_pair_at an_pair_at cd_pair_at ct_pair_at), sl_pair_at⟩) (c_pair_at : PySem.W.codeIn K cd_pair_at "_pair_at" = true) (k_pair_at : PySem.W.keepIn K (.ref f_pair_at) = true)
    {f_check_some_table : Addr} {od_check_some_table an_check_some_table : Option Addr} {sl_check_some_table : Array (Option Value)} {oc_check_some_table kV_check_some_table dc_check_some_table pm_check_some_table cd_check_some_table ct_check_some_table : Value}
    (a_check_some_table : PySem.W.nsIn K mainGlobals "_check_some_table" = some (some (.ref f_check_some_table))) (l_check_some_table : K.lookup f_check_some_table = some ⟨oc_check_some_table, od_check_some_table, .func (PySem.W.fnOf "_check_some_table" "_check_some_table" (defArgs s__check_some_table) (defBody s__check_some_table) (defScope s__check_some_table) .none kV_check_some_table dc_check_some_table pm_check_some_table an_check_some_table cd_check_some_table ct_check_some_table), sl_check_some_table⟩) (c_check_some_table : PySem.W.codeIn K cd_check_some_table "_check_some_table" = true) (k_check_some_table : PySem.W.keepIn K (.ref f_check_some_table) = true)
    {f_earliest_number : Addr} {od_earliest_number an_earliest_number : Option Addr} {sl_earliest_number : Array (Option Value)} {oc_earliest_number kV_earliest_number dc_earliest_number pm_earliest_number cd_earliest_number ct_earliest_number : Value}
    (a_earliest_number : PySem.W.nsIn K mainGlobals "_earliest_number" = some (some (.ref f_earliest_number))) (l_earliest_number : K.lookup f_earliest_number = some ⟨oc_earliest_number, od_earliest_number, .func (PySem.W.fnOf "_earliest_number" "_earliest_number" (defArgs s__earliest_number) (defBody s__earliest_number) (defScope s__earliest_number) .none kV_earliest_number dc_earliest_number pm_earliest_number an_earliest_number cd_earliest_number ct_earliest_number), sl_earliest_number⟩) (c_earliest_number : PySem.W.codeIn K cd_earliest_number "_earliest_number" = true) (k_earliest_number : PySem.W.keepIn K (.ref f_earliest_number) = true)
    {fearliest_at : Addr} {odearliest_at anearliest_at : Option Addr} {slearliest_at : Array (Option Value)} {ocearliest_at kVearliest_at dcearliest_at pmearliest_at cdearliest_at ctearliest_at : Value}
    (aearliest_at : PySem.W.nsIn K mainGlobals "earliest_at" = some (some (.ref fearliest_at))) (learliest_at : K.lookup fearliest_at = some ⟨ocearliest_at, odearliest_at, .func (PySem.W.fnOf "earliest_at" "earliest_at" (defArgs s_earliest_at) (defBody s_earliest_at) (defScope s_earliest_at) .none kVearliest_at dcearliest_at pmearliest_at anearliest_at cdearliest_at ctearliest_at), slearliest_at⟩) (cearliest_at : PySem.W.codeIn K cdearliest_at "earliest_at" = true) (kearliest_at : PySem.W.keepIn K (.ref fearliest_at) = true)
    {ffewest_pushes : Addr} {odfewest_pushes anfewest_pushes : Option Addr} {slfewest_pushes : Array (Option Value)} {ocfewest_pushes kVfewest_pushes dcfewest_pushes pmfewest_pushes cdfewest_pushes ctfewest_pushes : Value}
    (afewest_pushes : PySem.W.nsIn K mainGlobals "fewest_pushes" = some (some (.ref ffewest_pushes))) (lfewest_pushes : K.lookup ffewest_pushes = some ⟨ocfewest_pushes, odfewest_pushes, .func (PySem.W.fnOf "fewest_pushes" "fewest_pushes" (defArgs s_fewest_pushes) (defBody s_fewest_pushes) (defScope s_fewest_pushes) .none kVfewest_pushes dcfewest_pushes pmfewest_pushes anfewest_pushes cdfewest_pushes ctfewest_pushes), slfewest_pushes⟩) (cfewest_pushes : PySem.W.codeIn K cdfewest_pushes "fewest_pushes" = true) (kfewest_pushes : PySem.W.keepIn K (.ref ffewest_pushes) = true)
    {f_law_fits : Addr} {od_law_fits an_law_fits : Option Addr} {sl_law_fits : Array (Option Value)} {oc_law_fits kV_law_fits dc_law_fits pm_law_fits cd_law_fits ct_law_fits : Value}
    (a_law_fits : PySem.W.nsIn K mainGlobals "_law_fits" = some (some (.ref f_law_fits))) (l_law_fits : K.lookup f_law_fits = some ⟨oc_law_fits, od_law_fits, .func (PySem.W.fnOf "_law_fits" "_law_fits" (defArgs s__law_fits) (defBody s__law_fits) (defScope s__law_fits) .none kV_law_fits dc_law_fits pm_law_fits an_law_fits cd_law_fits ct_law_fits), sl_law_fits⟩) (c_law_fits : PySem.W.codeIn K cd_law_fits "_law_fits" = true) (k_law_fits : PySem.W.keepIn K (.ref f_law_fits) = true)
    {f_law_early : Addr} {od_law_early an_law_early : Option Addr} {sl_law_early : Array (Option Value)} {oc_law_early kV_law_early dc_law_early pm_law_early cd_law_early ct_law_early : Value}
    (a_law_early : PySem.W.nsIn K mainGlobals "_law_early" = some (some (.ref f_law_early))) (l_law_early : K.lookup f_law_early = some ⟨oc_law_early, od_law_early, .func (PySem.W.fnOf "_law_early" "_law_early" (defArgs s__law_early) (defBody s__law_early) (defScope s__law_early) .none kV_law_early dc_law_early pm_law_early an_law_early cd_law_early ct_law_early), sl_law_early⟩) (c_law_early : PySem.W.codeIn K cd_law_early "_law_early" = true) (k_law_early : PySem.W.keepIn K (.ref f_law_early) = true)
    {f_law_part : Addr} {od_law_part an_law_part : Option Addr} {sl_law_part : Array (Option Value)} {oc_law_part kV_law_part dc_law_part pm_law_part cd_law_part ct_law_part : Value}
    (a_law_part : PySem.W.nsIn K mainGlobals "_law_part" = some (some (.ref f_law_part))) (l_law_part : K.lookup f_law_part = some ⟨oc_law_part, od_law_part, .func (PySem.W.fnOf "_law_part" "_law_part" (defArgs s__law_part) (defBody s__law_part) (defScope s__law_part) .none kV_law_part dc_law_part pm_law_part an_law_part cd_law_part ct_law_part), sl_law_part⟩) (c_law_part : PySem.W.codeIn K cd_law_part "_law_part" = true) (k_law_part : PySem.W.keepIn K (.ref f_law_part) = true)
    {f_law_apart : Addr} {od_law_apart an_law_apart : Option Addr} {sl_law_apart : Array (Option Value)} {oc_law_apart kV_law_apart dc_law_apart pm_law_apart cd_law_apart ct_law_apart : Value}
    (a_law_apart : PySem.W.nsIn K mainGlobals "_law_apart" = some (some (.ref f_law_apart))) (l_law_apart : K.lookup f_law_apart = some ⟨oc_law_apart, od_law_apart, .func (PySem.W.fnOf "_law_apart" "_law_apart" (defArgs s__law_apart) (defBody s__law_apart) (defScope s__law_apart) .none kV_law_apart dc_law_apart pm_law_apart an_law_apart cd_law_apart ct_law_apart), sl_law_apart⟩) (c_law_apart : PySem.W.codeIn K cd_law_apart "_law_apart" = true) (k_law_apart : PySem.W.keepIn K (.ref f_law_apart) = true)
    {f_law_right : Addr} {od_law_right an_law_right : Option Addr} {sl_law_right : Array (Option Value)} {oc_law_right kV_law_right dc_law_right pm_law_right cd_law_right ct_law_right : Value}
    (a_law_right : PySem.W.nsIn K mainGlobals "_law_right" = some (some (.ref f_law_right))) (l_law_right : K.lookup f_law_right = some ⟨oc_law_right, od_law_right, .func (PySem.W.fnOf "_law_right" "_law_right" (defArgs s__law_right) (defBody s__law_right) (defScope s__law_right) .none kV_law_right dc_law_right pm_law_right an_law_right cd_law_right ct_law_right), sl_law_right⟩) (c_law_right : PySem.W.codeIn K cd_law_right "_law_right" = true) (k_law_right : PySem.W.keepIn K (.ref f_law_right) = true)
    {f_law_told : Addr} {od_law_told an_law_told : Option Addr} {sl_law_told : Array (Option Value)} {oc_law_told kV_law_told dc_law_told pm_law_told cd_law_told ct_law_told : Value}
    (a_law_told : PySem.W.nsIn K mainGlobals "_law_told" = some (some (.ref f_law_told))) (l_law_told : K.lookup f_law_told = some ⟨oc_law_told, od_law_told, .func (PySem.W.fnOf "_law_told" "_law_told" (defArgs s__law_told) (defBody s__law_told) (defScope s__law_told) .none kV_law_told dc_law_told pm_law_told an_law_told cd_law_told ct_law_told), sl_law_told⟩) (c_law_told : PySem.W.codeIn K cd_law_told "_law_told" = true) (k_law_told : PySem.W.keepIn K (.ref f_law_told) = true)
    {flaw : Addr} {odlaw anlaw : Option Addr} {sllaw : Array (Option Value)} {oclaw kVlaw dclaw pmlaw cdlaw ctlaw : Value}
    (alaw : PySem.W.nsIn K mainGlobals "law" = some (some (.ref flaw))) (llaw : K.lookup flaw = some ⟨oclaw, odlaw, .func (PySem.W.fnOf "law" "law" (defArgs s_law) (defBody s_law) (defScope s_law) .none kVlaw dclaw pmlaw anlaw cdlaw ctlaw), sllaw⟩) (claw : PySem.W.codeIn K cdlaw "law" = true) (klaw : PySem.W.keepIn K (.ref flaw) = true)
    (z_ValueError : PySem.W.nsIn K mainGlobals "ValueError" = some none)
    (z_any : PySem.W.nsIn K mainGlobals "any" = some none)
    (z_enumerate : PySem.W.nsIn K mainGlobals "enumerate" = some none)
    (z_int : PySem.W.nsIn K mainGlobals "int" = some none)
    (z_isinstance : PySem.W.nsIn K mainGlobals "isinstance" = some none)
    (z_len : PySem.W.nsIn K mainGlobals "len" = some none)
    (z_list : PySem.W.nsIn K mainGlobals "list" = some none)
    (z_max : PySem.W.nsIn K mainGlobals "max" = some none)
    (z_min : PySem.W.nsIn K mainGlobals "min" = some none)
    (z_range : PySem.W.nsIn K mainGlobals "range" = some none)
    (z_repr : PySem.W.nsIn K mainGlobals "repr" = some none)
    (z_set : PySem.W.nsIn K mainGlobals "set" = some none)
    (z_sorted : PySem.W.nsIn K mainGlobals "sorted" = some none)
    (z_tuple : PySem.W.nsIn K mainGlobals "tuple" = some none)
    (z_zip : PySem.W.nsIn K mainGlobals "zip" = some none)
    {cc DD tb1 tb2 tb3 tco : Addr}
    (utb1 : PySem.W.nsIn K mainGlobals "BadTree" = some (some (.ref tb1)))
    (utb2 : PySem.W.nsIn K mainGlobals "BadWindows" = some (some (.ref tb2)))
    (utb3 : PySem.W.nsIn K mainGlobals "TooLarge" = some (some (.ref tb3)))
    (utco : PySem.W.nsIn K mainGlobals "Conflict" = some (some (.ref tco)))
    (ulam : cdlaw = .ref cc)
    (hlT : lamT = [(DD, lamQ)])
    {CF : Addr}
    (xF : PySem.W.nsIn K mainGlobals "FallError" = some (some (.ref CF)))
    {CNoTable INoTable : Addr} {nmNoTable qNoTable : Str} {NNoTable : Addr} {bsNoTable : List Value} {snNoTable : List Str} {subNoTable : List Value} {abNoTable : Bool} {colNoTable : Option Bool} {ddNoTable : Option Addr} {m0NoTable m1NoTable m2NoTable m3NoTable m5NoTable : Option Value} {odNoTable anNoTable : Option Addr} {slNoTable : Array (Option Value)} {ocNoTable kVNoTable dcNoTable pmNoTable cdNoTable ctNoTable : Value}
    (x0NoTable : PySem.W.nsIn K mainGlobals "NoTable" = some (some (.ref CNoTable)))
    (x4NoTable : K.lookup CNoTable = some (PySem.excClassObj nmNoTable qNoTable CNoTable NNoTable bsNoTable [.ref CF, .type "ValueError", .type "Exception", .type "BaseException", .type "object"] true snNoTable subNoTable abNoTable colNoTable ddNoTable m0NoTable m1NoTable m2NoTable m3NoTable m5NoTable "ValueError.__new__"))
    (x5NoTable : PySem.W.findIn K (.ref CNoTable) "__setattr__" = some (some (.builtin "object.__setattr__")))
    (x6NoTable : PySem.W.findIn K (.ref CNoTable) "__getattribute__" = some (some (.builtin "BaseException.__getattribute__")))
    (x7NoTable : PySem.W.findIn K (.ref CNoTable) "__getattr__" = some none)
    (x8NoTable : PySem.W.findIn K (.ref CNoTable) "pair" = some none)
    (x9NoTable : PySem.W.findIn K (.ref CNoTable) "__init__" = some (some (.ref INoTable)))
    (w1NoTable : PySem.W.findIn K (.ref CNoTable) "__class__" = some (some (.builtin "object.__class__")))
    (w2NoTable : PySem.W.specialIn K (.builtin "object.__class__") "__get__" = some (some (.builtin "getset_descriptor.__get__")))
    (w3NoTable : PySem.W.takesIn K (.builtin "object.__class__") = some true)
    (w4NoTable : PySem.W.mroIn K CNoTable (.type "object") = some true)
    (w5NoTable : PySem.W.typeIn K (.ref INoTable) = some (.type "function"))
    (w6NoTable : PySem.W.keepIn K (.ref CNoTable) = true)
    (w7NoTable : PySem.W.subIn K (.ref CNoTable) (.type "BaseException") = some true)
    (w8NoTable : PySem.W.typeIn K (.ref CNoTable) = some (.type "type"))
    (w9NoTable : PySem.W.hasDictIn K CNoTable = true)
    (v1NoTable : K.lookup INoTable = some ⟨ocNoTable, odNoTable, .func (PySem.W.fnOf "__init__" "NoTable.__init__" (Err_NoTable.tlArgs ⟨10, 17, 10, 21⟩ ⟨10, 23, 10, 27⟩) (Err_NoTable.tlBody ⟨11, 8, 11, 12⟩ ⟨11, 8, 11, 17⟩ ⟨11, 20, 11, 24⟩ ⟨11, 8, 11, 24⟩) Err_NoTable.tlScope .none kVNoTable dcNoTable pmNoTable anNoTable cdNoTable ctNoTable), slNoTable⟩)
    (v2NoTable : PySem.W.codeIn K cdNoTable "NoTable.__init__" = true)
    (v3 : PySem.W.subIn K (.ref CF) (.type "BaseException") = some true)
    (v4 : PySem.W.hasDictIn K CF = true)
    (v5 : PySem.W.typeIn K (.ref CF) = some (.type "type"))
    (v6 : PySem.W.subIn K (.ref CNoTable) (.ref CF) = some true)
    (vV : PySem.W.kitOne K (.ref CNoTable) (.type "ValueError") = some true)
    (vN : PySem.W.kitAny K (.ref CNoTable) [.ref tb1, .ref tb2, .ref tb3] = some false)
    (vO : PySem.W.kitOne K (.ref CNoTable) (.ref tco) = some false)
    : ∃ fd : FuncData, (∀ (s : Shared) (v : Value), BindsTo s fd ⟨[v], []⟩ [("_law_script", v)]) ∧ ∀ base : Heap, K.In base → base.Ns mainGlobals mg → LamX.TabB base mg cc DD → Gk l.prog w K mg base (L2.CX l.prog w) 8 fa fd ["_law_script"] (spLaw F_law 63 K) := by
  have e := hfa.symm.trans (PySem.W.mg_of X G alaw)
  cases e
  have T : Top mg := ⟨PySem.W.mg_none_of X G z_ValueError, PySem.W.mg_none_of X G z_any, PySem.W.mg_none_of X G z_enumerate, PySem.W.mg_none_of X G z_int, PySem.W.mg_none_of X G z_isinstance, PySem.W.mg_none_of X G z_len, PySem.W.mg_none_of X G z_list, PySem.W.mg_none_of X G z_max, PySem.W.mg_none_of X G z_min, PySem.W.mg_none_of X G z_range, PySem.W.mg_none_of X G z_repr, PySem.W.mg_none_of X G z_set, PySem.W.mg_none_of X G z_sorted, PySem.W.mg_none_of X G z_tuple, PySem.W.mg_none_of X G z_zip⟩
  have F_law_draws := fun_mk (st := s__law_draws) l_law_draws c_law_draws k_law_draws
  have b_law_draws := F_law_draws.binds (ps := ["_law_script"]) fun _ _ _ _ _ _ us hl => match us, hl with | [_], _ => rfl
  have g_law_draws := PySem.W.mg_of X G a_law_draws
  have F_law_next := fun_mk (st := s__law_next) l_law_next c_law_next k_law_next
  have b_law_next := F_law_next.binds (ps := ["_law_drawn", "_law_many"]) fun _ _ _ _ _ _ us hl => match us, hl with | [_, _], _ => rfl
  have g_law_next := PySem.W.mg_of X G a_law_next
  have F_law_tree := fun_mk (st := s__law_tree) l_law_tree c_law_tree k_law_tree
  have b_law_tree := F_law_tree.binds (ps := ["_law_drawn", "_law_most", "_law_long"]) fun _ _ _ _ _ _ us hl => match us, hl with | [_, _, _], _ => rfl
  have g_law_tree := PySem.W.mg_of X G a_law_tree
  have F_law_gap := fun_mk (st := s__law_gap) l_law_gap c_law_gap k_law_gap
  have b_law_gap := F_law_gap.binds (ps := ["_law_tree_here", "_law_one", "_law_other"]) fun _ _ _ _ _ _ us hl => match us, hl with | [_, _, _], _ => rfl
  have g_law_gap := PySem.W.mg_of X G a_law_gap
  have F_law_falls := fun_mk (st := s__law_falls) l_law_falls c_law_falls k_law_falls
  have b_law_falls := F_law_falls.binds (ps := ["_law_tree_here", "_law_pushes_here"]) fun _ _ _ _ _ _ us hl => match us, hl with | [_, _], _ => rfl
  have g_law_falls := PySem.W.mg_of X G a_law_falls
  have F_law_pushes := fun_mk (st := s__law_pushes) l_law_pushes c_law_pushes k_law_pushes
  have b_law_pushes := F_law_pushes.binds (ps := ["_law_drawn", "_law_tree_here", "_law_most", "_law_late"]) fun _ _ _ _ _ _ us hl => match us, hl with | [_, _, _, _], _ => rfl
  have g_law_pushes := PySem.W.mg_of X G a_law_pushes
  have F_law_windows := fun_mk (st := s__law_windows) l_law_windows c_law_windows k_law_windows
  have b_law_windows := F_law_windows.binds (ps := ["_law_drawn", "_law_tree_here", "_law_late"]) fun _ _ _ _ _ _ us hl => match us, hl with | [_, _, _], _ => rfl
  have g_law_windows := PySem.W.mg_of X G a_law_windows
  have F_law_pair := fun_mk (st := s__law_pair) l_law_pair c_law_pair k_law_pair
  have b_law_pair := F_law_pair.binds (ps := ["_law_tree_here", "_law_windows_here"]) fun _ _ _ _ _ _ us hl => match us, hl with | [_, _], _ => rfl
  have g_law_pair := PySem.W.mg_of X G a_law_pair
  have Fdistances_of := fun_mk (st := s_distances_of) ldistances_of cdistances_of kdistances_of
  have bdistances_of := Fdistances_of.binds (ps := ["tree"]) fun _ _ _ _ _ _ us hl => match us, hl with | [_], _ => rfl
  have gdistances_of := PySem.W.mg_of X G adistances_of
  have F_part_at := fun_mk (st := s__part_at) l_part_at c_part_at k_part_at
  have b_part_at := F_part_at.binds (ps := ["far", "windows", "firsts", "mark"]) fun _ _ _ _ _ _ us hl => match us, hl with | [_, _, _, _], _ => rfl
  have g_part_at := PySem.W.mg_of X G a_part_at
  have F_meet_parts := fun_mk (st := s__meet_parts) l_meet_parts c_meet_parts k_meet_parts
  have b_meet_parts := F_meet_parts.binds (ps := ["parts"]) fun _ _ _ _ _ _ us hl => match us, hl with | [_], _ => rfl
  have g_meet_parts := PySem.W.mg_of X G a_meet_parts
  have F_fewest_at := fun_mk (st := s__fewest_at) l_fewest_at c_fewest_at k_fewest_at
  have b_fewest_at := F_fewest_at.binds (ps := ["far", "windows", "firsts"]) fun _ _ _ _ _ _ us hl => match us, hl with | [_, _, _], _ => rfl
  have g_fewest_at := PySem.W.mg_of X G a_fewest_at
  have F_pair_at := fun_mk (st := s__pair_at) l_pair_at c_pair_at k_pair_at
  have b_pair_at := F_pair_at.binds (ps := ["far", "windows"]) fun _ _ _ _ _ _ us hl => match us, hl with | [_, _], _ => rfl
  have g_pair_at := PySem.W.mg_of X G a_pair_at
  have F_check_some_table := fun_mk (st := s__check_some_table) l_check_some_table c_check_some_table k_check_some_table
  have b_check_some_table := F_check_some_table.binds (ps := ["far", "windows"]) fun _ _ _ _ _ _ us hl => match us, hl with | [_, _], _ => rfl
  have g_check_some_table := PySem.W.mg_of X G a_check_some_table
  have F_earliest_number := fun_mk (st := s__earliest_number) l_earliest_number c_earliest_number k_earliest_number
  have b_earliest_number := F_earliest_number.binds (ps := ["ways", "windows"]) fun _ _ _ _ _ _ us hl => match us, hl with | [_, _], _ => rfl
  have g_earliest_number := PySem.W.mg_of X G a_earliest_number
  have Fearliest_at := fun_mk (st := s_earliest_at) learliest_at cearliest_at kearliest_at
  have bearliest_at := Fearliest_at.binds (ps := ["far", "windows"]) fun _ _ _ _ _ _ us hl => match us, hl with | [_, _], _ => rfl
  have gearliest_at := PySem.W.mg_of X G aearliest_at
  have Ffewest_pushes := fun_mk (st := s_fewest_pushes) lfewest_pushes cfewest_pushes kfewest_pushes
  have bfewest_pushes := Ffewest_pushes.binds (ps := ["tree", "windows"]) fun _ _ _ _ _ _ us hl => match us, hl with | [_, _], _ => rfl
  have gfewest_pushes := PySem.W.mg_of X G afewest_pushes
  have F_law_fits := fun_mk (st := s__law_fits) l_law_fits c_law_fits k_law_fits
  have b_law_fits := F_law_fits.binds (ps := ["_law_windows_here", "_law_table"]) fun _ _ _ _ _ _ us hl => match us, hl with | [_, _], _ => rfl
  have g_law_fits := PySem.W.mg_of X G a_law_fits
  have F_law_early := fun_mk (st := s__law_early) l_law_early c_law_early k_law_early
  have b_law_early := F_law_early.binds (ps := ["_law_tree_here", "_law_windows_here"]) fun _ _ _ _ _ _ us hl => match us, hl with | [_, _], _ => rfl
  have g_law_early := PySem.W.mg_of X G a_law_early
  have F_law_part := fun_mk (st := s__law_part) l_law_part c_law_part k_law_part
  have b_law_part := F_law_part.binds (ps := ["_law_tree_here", "_law_windows_here", "_law_mark"]) fun _ _ _ _ _ _ us hl => match us, hl with | [_, _, _], _ => rfl
  have g_law_part := PySem.W.mg_of X G a_law_part
  have F_law_apart := fun_mk (st := s__law_apart) l_law_apart c_law_apart k_law_apart
  have b_law_apart := F_law_apart.binds (ps := ["_law_tree_here", "_law_windows_here", "_law_marks"]) fun _ _ _ _ _ _ us hl => match us, hl with | [_, _, _], _ => rfl
  have g_law_apart := PySem.W.mg_of X G a_law_apart
  have F_law_right := fun_mk (st := s__law_right) l_law_right c_law_right k_law_right
  have b_law_right := F_law_right.binds (ps := ["_law_tree_here", "_law_windows_here", "_law_found"]) fun _ _ _ _ _ _ us hl => match us, hl with | [_, _, _], _ => rfl
  have g_law_right := PySem.W.mg_of X G a_law_right
  have F_law_told := fun_mk (st := s__law_told) l_law_told c_law_told k_law_told
  have b_law_told := F_law_told.binds (ps := ["_law_call"]) fun _ _ _ _ _ _ us hl => match us, hl with | [_], _ => rfl
  have g_law_told := PySem.W.mg_of X G a_law_told
  have Flaw := fun_mk (st := s_law) llaw claw klaw
  have Z_NoTable : Err_NoTable.TL K mg CNoTable INoTable := ⟨x0NoTable, PySem.W.mg_of X G x0NoTable, ⟨nmNoTable, qNoTable, NNoTable, bsNoTable, _, snNoTable, subNoTable, abNoTable, colNoTable, ddNoTable, m0NoTable, m1NoTable, m2NoTable, m3NoTable, m5NoTable, x4NoTable, rfl⟩, x5NoTable, x6NoTable, x7NoTable, x8NoTable, x9NoTable, w1NoTable, w2NoTable, w3NoTable, w4NoTable, w5NoTable, w6NoTable, w7NoTable, w8NoTable, w9NoTable, ⟨_, _, _, _, _, _, _, _, _, _, _, _, _, _, _, v1NoTable, v2NoTable⟩⟩
  have Zt : ToldZ K mg CNoTable CF CNoTable tco tb1 tb2 tb3 true := ⟨kit_NoTable Z_NoTable, ⟨Z_NoTable.f_get, Z_NoTable.f_at, Z_NoTable.sub, Z_NoTable.dct⟩, Z_NoTable.f_fld, PySem.W.mg_of X G xF, Z_NoTable.gC, (PySem.W.mg_of X G utco), PySem.W.mg_of X G utb1, PySem.W.mg_of X G utb2, PySem.W.mg_of X G utb3, PySem.W.mg_none_of X G z_ValueError, PySem.W.mg_none_of X G z_isinstance, PySem.W.exm_ref v3 v4 v5 v6, vV, vN, if_pos (beq_self_eq_true _), vO⟩
  refine ⟨PySem.W.fnOf "law" "law" (defArgs s_law) (defBody s_law) (defScope s_law) .none kVlaw dclaw pmlaw anlaw cdlaw ctlaw, fun s v => .of_eq rfl, fun base _ _ TBl => ?_⟩
  have C_law_draws := ok__law_draws (P := l.prog) (w := w) (base := base) T F_law_draws   
  have C_law_next := ok__law_next (P := l.prog) (w := w) (base := base) T F_law_next   
  have C_law_tree := ok__law_tree (P := l.prog) (w := w) (base := base) T F_law_tree   F_law_next g_law_next b_law_next C_law_next
  have C_law_gap := ok__law_gap (P := l.prog) (w := w) (base := base) T F_law_gap   
  have C_law_falls := ok__law_falls (P := l.prog) (w := w) (base := base) T F_law_falls   F_law_gap g_law_gap b_law_gap C_law_gap
  have C_law_pushes := ok__law_pushes (P := l.prog) (w := w) (base := base) T F_law_pushes   F_law_next g_law_next b_law_next C_law_next
  have C_law_windows := ok__law_windows (P := l.prog) (w := w) (base := base) T F_law_windows   F_law_falls g_law_falls b_law_falls C_law_falls F_law_pushes g_law_pushes b_law_pushes C_law_pushes F_law_next g_law_next b_law_next C_law_next
  have C_law_pair := ok__law_pair (P := l.prog) (w := w) (base := base) T F_law_pair   F_law_gap g_law_gap b_law_gap C_law_gap
  have Cdistances_of := ok_distances_of (P := l.prog) (w := w) (base := base) T Fdistances_of   
  have C_part_at := ok__part_at (P := l.prog) (w := w) (base := base) T F_part_at   
  have C_meet_parts := ok__meet_parts (P := l.prog) (w := w) (base := base) T F_meet_parts   
  have C_fewest_at := ok__fewest_at (P := l.prog) (w := w) (base := base) T F_fewest_at   F_part_at g_part_at b_part_at C_part_at F_meet_parts g_meet_parts b_meet_parts C_meet_parts
  have C_pair_at := ok__pair_at (P := l.prog) (w := w) (base := base) T F_pair_at   
  have C_check_some_table := ok__check_some_table (P := l.prog) (w := w) (base := base) T F_check_some_table  Z_NoTable F_pair_at g_pair_at b_pair_at C_pair_at
  have C_earliest_number := ok__earliest_number (P := l.prog) (w := w) (base := base) T F_earliest_number   
  have Cearliest_at := ok_earliest_at (P := l.prog) (w := w) (base := base) T Fearliest_at   F_check_some_table g_check_some_table b_check_some_table C_check_some_table F_earliest_number g_earliest_number b_earliest_number C_earliest_number
  have Cfewest_pushes := ok_fewest_pushes (P := l.prog) (w := w) (base := base) T Ffewest_pushes   Fdistances_of gdistances_of bdistances_of Cdistances_of F_fewest_at g_fewest_at b_fewest_at C_fewest_at Fearliest_at gearliest_at bearliest_at Cearliest_at
  have C_law_fits := ok__law_fits (P := l.prog) (w := w) (base := base) T F_law_fits   
  have C_law_early := ok__law_early (P := l.prog) (w := w) (base := base) T F_law_early   F_law_gap g_law_gap b_law_gap C_law_gap
  have C_law_part := ok__law_part (P := l.prog) (w := w) (base := base) T F_law_part   F_law_early g_law_early b_law_early C_law_early F_law_gap g_law_gap b_law_gap C_law_gap
  have C_law_apart := ok__law_apart (P := l.prog) (w := w) (base := base) T F_law_apart   F_law_part g_law_part b_law_part C_law_part
  have C_law_right := ok__law_right (P := l.prog) (w := w) (base := base) T F_law_right   F_law_fits g_law_fits b_law_fits C_law_fits F_law_falls g_law_falls b_law_falls C_law_falls F_law_apart g_law_apart b_law_apart C_law_apart
  have Claw := ok_law (P := l.prog) (w := w) (base := base) T Flaw  Z_NoTable F_law_told g_law_told b_law_told Zt TBl ulam hlT F_law_draws g_law_draws b_law_draws C_law_draws F_law_tree g_law_tree b_law_tree C_law_tree F_law_windows g_law_windows b_law_windows C_law_windows F_law_pair g_law_pair b_law_pair C_law_pair Ffewest_pushes gfewest_pushes bfewest_pushes Cfewest_pushes F_law_right g_law_right b_law_right C_law_right
  exact Claw
end Pf
open PySem PySem.W PyProof.Rows
set_option maxHeartbeats 0 in
theorem PySem.Challenge.cw_marktopples_k19_fewest_pushes_shown_holds : PySem.Challenge.rw_marktopples_k19_fewest_pushes_shown.Holds := by
  w_on; o_law; k_head; (case hw => w_witness2)
  k_fill
  -- LAMT [(269, (("law" : Str) ++ ".<locals>.") ++ "<lambda>")]
  refine Pf.law_walkT (l := PySem.Challenge.rw_marktopples_k19_fewest_pushes_shown) (n := 63) (k := 8) (x := "_law_script") (sp := Pf.spLaw Pf.F_law 63) (c := 271) (D := 269) rfl (by decide) rfl ⟨rfl, by decide, by decide⟩ (fun w h Y => PySem.W.km_in_of Y) (fun w h Y => PySem.W.km_tabs_of Y 269 (by k_mem)) ?ht ?hn ?F (Pf.spLaw_ofT Pf.law_true (q := Pf.lamQ) ?hT)
  case ht => intro w; first | kernel_rfl | k_is | rfl
  case hn => intro w; first | kernel_rfl | k_is | rfl
  case hT => rfl
  case F =>
    intro w mg fa h KX G hmg
    refine' Pf.all_mk KX G hmg ?a_law_draws ?l_law_draws ?c_law_draws ?k_law_draws ?a_law_next ?l_law_next ?c_law_next ?k_law_next ?a_law_tree ?l_law_tree ?c_law_tree ?k_law_tree ?a_law_gap ?l_law_gap ?c_law_gap ?k_law_gap ?a_law_falls ?l_law_falls ?c_law_falls ?k_law_falls ?a_law_pushes ?l_law_pushes ?c_law_pushes ?k_law_pushes ?a_law_windows ?l_law_windows ?c_law_windows ?k_law_windows ?a_law_pair ?l_law_pair ?c_law_pair ?k_law_pair ?adistances_of ?ldistances_of ?cdistances_of ?kdistances_of ?a_part_at ?l_part_at ?c_part_at ?k_part_at ?a_meet_parts ?l_meet_parts ?c_meet_parts ?k_meet_parts ?a_fewest_at ?l_fewest_at ?c_fewest_at ?k_fewest_at ?a_pair_at ?l_pair_at ?c_pair_at ?k_pair_at ?a_check_some_table ?l_check_some_table ?c_check_some_table ?k_check_some_table ?a_earliest_number ?l_earliest_number ?c_earliest_number ?k_earliest_number ?aearliest_at ?learliest_at ?cearliest_at ?kearliest_at ?afewest_pushes ?lfewest_pushes ?cfewest_pushes ?kfewest_pushes ?a_law_fits ?l_law_fits ?c_law_fits ?k_law_fits ?a_law_early ?l_law_early ?c_law_early ?k_law_early ?a_law_part ?l_law_part ?c_law_part ?k_law_part ?a_law_apart ?l_law_apart ?c_law_apart ?k_law_apart ?a_law_right ?l_law_right ?c_law_right ?k_law_right ?a_law_told ?l_law_told ?c_law_told ?k_law_told ?alaw ?llaw ?claw ?klaw ?z_ValueError ?z_any ?z_enumerate ?z_int ?z_isinstance ?z_len ?z_list ?z_max ?z_min ?z_range ?z_repr ?z_set ?z_sorted ?z_tuple ?z_zip ?utb1 ?utb2 ?utb3 ?utco ?ulam ?hlT ?xF ?x0NoTable ?x4NoTable ?x5NoTable ?x6NoTable ?x7NoTable ?x8NoTable ?x9NoTable ?w1NoTable ?w2NoTable ?w3NoTable ?w4NoTable ?w5NoTable ?w6NoTable ?w7NoTable ?w8NoTable ?w9NoTable ?v1NoTable ?v2NoTable ?v3 ?v4 ?v5 ?v6 ?vV ?vN ?vO
    (case hlT => rfl)
    (case a_law_draws => k_is); (case l_law_draws => k_is); (case c_law_draws => k_is); (case k_law_draws => k_is); (case a_law_next => k_is); (case l_law_next => k_is); (case c_law_next => k_is); (case k_law_next => k_is); (case a_law_tree => k_is); (case l_law_tree => k_is); (case c_law_tree => k_is); (case k_law_tree => k_is); (case a_law_gap => k_is); (case l_law_gap => k_is); (case c_law_gap => k_is); (case k_law_gap => k_is); (case a_law_falls => k_is); (case l_law_falls => k_is); (case c_law_falls => k_is); (case k_law_falls => k_is); (case a_law_pushes => k_is); (case l_law_pushes => k_is); (case c_law_pushes => k_is); (case k_law_pushes => k_is); (case a_law_windows => k_is); (case l_law_windows => k_is); (case c_law_windows => k_is); (case k_law_windows => k_is); (case a_law_pair => k_is); (case l_law_pair => k_is); (case c_law_pair => k_is); (case k_law_pair => k_is); (case adistances_of => k_is); (case ldistances_of => k_is); (case cdistances_of => k_is); (case kdistances_of => k_is); (case a_part_at => k_is); (case l_part_at => k_is); (case c_part_at => k_is); (case k_part_at => k_is); (case a_meet_parts => k_is); (case l_meet_parts => k_is); (case c_meet_parts => k_is); (case k_meet_parts => k_is); (case a_fewest_at => k_is); (case l_fewest_at => k_is); (case c_fewest_at => k_is); (case k_fewest_at => k_is); (case a_pair_at => k_is); (case l_pair_at => k_is); (case c_pair_at => k_is); (case k_pair_at => k_is); (case a_check_some_table => k_is); (case l_check_some_table => k_is); (case c_check_some_table => k_is); (case k_check_some_table => k_is); (case a_earliest_number => k_is); (case l_earliest_number => k_is); (case c_earliest_number => k_is); (case k_earliest_number => k_is); (case aearliest_at => k_is); (case learliest_at => k_is); (case cearliest_at => k_is); (case kearliest_at => k_is); (case afewest_pushes => k_is); (case lfewest_pushes => k_is); (case cfewest_pushes => k_is); (case kfewest_pushes => k_is); (case a_law_fits => k_is); (case l_law_fits => k_is); (case c_law_fits => k_is); (case k_law_fits => k_is); (case a_law_early => k_is); (case l_law_early => k_is); (case c_law_early => k_is); (case k_law_early => k_is); (case a_law_part => k_is); (case l_law_part => k_is); (case c_law_part => k_is); (case k_law_part => k_is); (case a_law_apart => k_is); (case l_law_apart => k_is); (case c_law_apart => k_is); (case k_law_apart => k_is); (case a_law_right => k_is); (case l_law_right => k_is); (case c_law_right => k_is); (case k_law_right => k_is); (case a_law_told => k_is); (case l_law_told => k_is); (case c_law_told => k_is); (case k_law_told => k_is); (case alaw => k_is); (case llaw => k_is); (case claw => k_is); (case klaw => k_is); (case z_ValueError => k_is); (case z_any => k_is); (case z_enumerate => k_is); (case z_int => k_is); (case z_isinstance => k_is); (case z_len => k_is); (case z_list => k_is); (case z_max => k_is); (case z_min => k_is); (case z_range => k_is); (case z_repr => k_is); (case z_set => k_is); (case z_sorted => k_is); (case z_tuple => k_is); (case z_zip => k_is)
    (case utb1 => first | k_is | rfl)
    (case utb2 => first | k_is | rfl)
    (case utb3 => first | k_is | rfl)
    (case utco => first | k_is | rfl)
    (case ulam => first | k_is | rfl)
    (case xF => first | k_is | rfl)
    (case x0NoTable => first | k_is | rfl)
    (case x4NoTable => first | k_is | rfl)
    (case x5NoTable => first | k_is | rfl)
    (case x6NoTable => first | k_is | rfl)
    (case x7NoTable => first | k_is | rfl)
    (case x8NoTable => first | k_is | rfl)
    (case x9NoTable => first | k_is | rfl)
    (case w1NoTable => first | k_is | rfl)
    (case w2NoTable => first | k_is | rfl)
    (case w3NoTable => first | k_is | rfl)
    (case w4NoTable => first | k_is | rfl)
    (case w5NoTable => first | k_is | rfl)
    (case w6NoTable => first | k_is | rfl)
    (case w7NoTable => first | k_is | rfl)
    (case w8NoTable => first | k_is | rfl)
    (case w9NoTable => first | k_is | rfl)
    (case v1NoTable => first | k_is | rfl)
    (case v2NoTable => first | k_is | rfl)
    (case v3 => first | k_is | rfl)
    (case v4 => first | k_is | rfl)
    (case v5 => first | k_is | rfl)
    (case v6 => first | k_is | rfl)
    (case vV => first | k_is | rfl)
    (case vN => first | k_is | rfl)
    (case vO => first | k_is | rfl)

