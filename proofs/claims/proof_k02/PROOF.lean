import PyProof.Rows.All
import Wide.All
import OpenK.AllK
import Wide.FinOn
import HandS.ForMost
import HandS.Evl
import HandS.Steps
import HandS.Lambda
import HandS.Walk
import HandS.WordsExc
import HandS.Iter
import KE.GoesEnum
import HandS.IsInst
import HandS.Gcd
import HandS.Deep
import HandS.TupAny
import HandS.Wide
import HandS.Style
import HandS.Dict
import KE.KMathGC
import KE.DataFind
import PyProof.ReprReads
import HandS.Ends
import HandS.More
import PyProof.ReprRoads
import HandS.Conv
import HandS.Defaults
import HandS.TupMul
import PyProof.ReprLen
import HandS.MakeKw
import HandS.ForExc
import HandS.ExcInit
import HandS.TryMany
import HandS.ExcField
import HandS.EndTab
import HandS.SetFor
import HandS.SortInts
import KE.KExcIs
import HandS.ExcIs
import HandS.MakeKwOnly
import HandS.Codes
import PyProof.IsRules
import PyProof.StrOps2
import HandS.Exc
import PySem.Challenge.RW_logsapart_k02_whole_what_a_story_lays_do
set_option Elab.async false
set_option autoImplicit false
set_option linter.all false
set_option maxRecDepth 100000
set_option maxHeartbeats 4000000
/-! ### A. data, owned things, states -/
namespace DL
open PySem L2 Evl

inductive Dat where
  | non | bl (b : Bool) | int (i : Int) | str (s : Str) | lst (xs : List Dat) | tup (xs : List Dat) | obj (C : Addr) (fs : List (Str × Dat)) | ty (n : String) | scr (ns : List Int)

mutual
inductive Den (K : PySem.W.Frag) (D : Hp) : V → Dat → Prop
  | non : Den K D .non .non
  | bl (b : Bool) : Den K D (.bl b) (.bl b)
  | int (i : Int) : Den K D (.int i) (.int i)
  | str (x : Str) : Den K D (.str x) (.str x)
  | lst {a : Addr} {xs : List V} {ds : List Dat} : D a = some (.lst xs) → DenAll K D xs ds → Den K D (.ref a) (.lst ds)
  | tup {a : Addr} {xs : List V} {ds : List Dat} : D a = some (.tup xs) → DenAll K D xs ds → Den K D (.ref a) (.tup ds)
  | obj {a C dx : Addr} {fs : List (Str × V)} {gs : List (Str × Dat)} : D a = some (.ins C dx fs) → DenF K D fs gs → Den K D (.ref a) (.obj C gs)
  | ty (n : String) : Den K D (.ty n) (.ty n)
  | scr {a : Addr} {ns : List Int} : SqL K D a (ns.map V.int) → Den K D (.ref a) (.scr ns)
inductive DenAll (K : PySem.W.Frag) (D : Hp) : List V → List Dat → Prop
  | nil : DenAll K D [] []
  | cons {v : V} {vs : List V} {d : Dat} {ds : List Dat} : Den K D v d → DenAll K D vs ds → DenAll K D (v :: vs) (d :: ds)
inductive DenF (K : PySem.W.Frag) (D : Hp) : List (Str × V) → List (Str × Dat) → Prop
  | nil : DenF K D [] []
  | cons {f : Str} {v : V} {vs : List (Str × V)} {d : Dat} {ds : List (Str × Dat)} : Den K D v d → DenF K D vs ds → DenF K D ((f, v) :: vs) ((f, d) :: ds)
end

mutual
theorem Den.mono {K : PySem.W.Frag} {D D' : Hp} (e : Ex D D') : ∀ {v : V} {d : Dat}, Den K D v d → Den K D' v d
  | _, _, .non => .non
  | _, _, .bl b => .bl b
  | _, _, .int i => .int i
  | _, _, .str x => .str x
  | _, _, .lst h r => .lst (e _ _ h) (DenAll.mono e r)
  | _, _, .tup h r => .tup (e _ _ h) (DenAll.mono e r)
  | _, _, .obj h r => .obj (e _ _ h) (DenF.mono e r)
  | _, _, .ty n => .ty n
  | _, _, .scr h => .scr (ex_l e h)
theorem DenAll.mono {K : PySem.W.Frag} {D D' : Hp} (e : Ex D D') : ∀ {v : List V} {d : List Dat}, DenAll K D v d → DenAll K D' v d
  | _, _, .nil => .nil
  | _, _, .cons h r => .cons (Den.mono e h) (DenAll.mono e r)
theorem DenF.mono {K : PySem.W.Frag} {D D' : Hp} (e : Ex D D') : ∀ {v : List (Str × V)} {d : List (Str × Dat)}, DenF K D v d → DenF K D' v d
  | _, _, .nil => .nil
  | _, _, .cons h r => .cons (Den.mono e h) (DenF.mono e r)
end
section
variable {K : PySem.W.Frag} {D : Hp}
theorem DenAll.length : ∀ {vs : List V} {ds : List Dat}, DenAll K D vs ds → vs.length = ds.length
  | _, _, .nil => rfl
  | _, _, .cons _ r => by rw [List.length_cons, List.length_cons, DenAll.length r]
theorem DenAll.get : ∀ {vs : List V} {ds : List Dat} {i : Nat} {d : Dat}, DenAll K D vs ds → ds[i]? = some d → ∃ v, vs[i]? = some v ∧ Den K D v d
  | _, _, _, _, .nil, e => by simp at e
  | _, _, 0, _, .cons r _, e => by simp at e; subst e; exact ⟨_, rfl, r⟩
  | _, _, i + 1, d, .cons _ t, e => by
    obtain ⟨u, h1, h2⟩ := DenAll.get (i := i) (d := d) t (by simpa using e)
    exact ⟨u, by simpa using h1, h2⟩
theorem DenAll.getv : ∀ {vs : List V} {ds : List Dat} {i : Nat} {v : V}, DenAll K D vs ds → vs[i]? = some v → ∃ d, ds[i]? = some d ∧ Den K D v d
  | _, _, _, _, .nil, e => by simp at e
  | _, _, 0, _, .cons r _, e => by simp at e; subst e; exact ⟨_, rfl, r⟩
  | _, _, i + 1, d, .cons _ t, e => by
    obtain ⟨u, h1, h2⟩ := DenAll.getv (i := i) (v := d) t (by simpa using e)
    exact ⟨u, by simpa using h1, h2⟩
theorem DenAll.app : ∀ {vs ws : List V} {ds es : List Dat}, DenAll K D vs ds → DenAll K D ws es → DenAll K D (vs ++ ws) (ds ++ es)
  | _, _, _, _, .nil, s => s
  | _, _, _, _, .cons r t, s => .cons r (DenAll.app t s)
theorem DenAll.take : ∀ {vs : List V} {ds : List Dat} (n : Nat), DenAll K D vs ds → DenAll K D (vs.take n) (ds.take n)
  | _, _, 0, _ => .nil
  | _, _, _ + 1, .nil => .nil
  | _, _, n + 1, .cons r t => .cons r (DenAll.take n t)
theorem DenAll.drop : ∀ {vs : List V} {ds : List Dat} (n : Nat), DenAll K D vs ds → DenAll K D (vs.drop n) (ds.drop n)
  | _, _, 0, r => r
  | _, _, _ + 1, .nil => .nil
  | _, _, n + 1, .cons _ t => DenAll.drop n t
theorem DenAll.set {v : V} {d : Dat} (r : Den K D v d) : ∀ {vs : List V} {ds : List Dat} (i : Nat), DenAll K D vs ds → DenAll K D (vs.set i v) (ds.set i d)
  | _, _, _, .nil => .nil
  | _, _, 0, .cons _ t => .cons r t
  | _, _, i + 1, .cons q t => .cons q (DenAll.set r i t)
theorem DenAll.rev {vs : List V} {ds : List Dat} (h : DenAll K D vs ds) : DenAll K D vs.reverse ds.reverse := by
  induction vs generalizing ds with
  | nil => cases h; exact .nil
  | cons v vs ih =>
    cases h with
    | cons r t =>
      rw [List.reverse_cons, List.reverse_cons]
      exact (ih t).app (.cons r .nil)
theorem DenAll.ints : ∀ {vs : List V} {ns : List Int}, DenAll K D vs (ns.map Dat.int) → vs = ns.map V.int
  | [], [], .nil => rfl
  | _ :: _, _ :: _, .cons r t => by
    cases r
    rw [List.map_cons, ← DenAll.ints t]
theorem DenAll.ofInts : ∀ (ns : List Int), DenAll K D (ns.map V.int) (ns.map Dat.int)
  | [] => .nil
  | _ :: r => .cons (.int _) (DenAll.ofInts r)
theorem DenAll.bools : ∀ {vs : List V} {ns : List Bool}, DenAll K D vs (ns.map Dat.bl) → vs = ns.map V.bl
  | [], [], .nil => rfl
  | _ :: _, _ :: _, .cons r t => by
    cases r
    rw [List.map_cons, ← DenAll.bools t]
theorem DenF.look {f : Str} : ∀ {vs : List (Str × V)} {ds : List (Str × Dat)} {d : Dat}, DenF K D vs ds → ds.lookup f = some d → ∃ v, vs.lookup f = some v ∧ Den K D v d
  | _, _, _, .nil, e => by simp at e
  | _, _, d, .cons (f := g) r t, e => by
    rw [List.lookup_cons] at e
    rw [List.lookup_cons]
    cases hfg : f == g with
    | true =>
      rw [hfg] at e
      have e' := Option.some.inj e
      subst e'
      exact ⟨_, rfl, r⟩
    | false =>
      rw [hfg] at e
      exact DenF.look t e
end

/-! owned things -/
/-- no table, no code object -/
def plainO : HO → Bool
  | .tbl _ => false
  | .ext _ => false
  | _ => true
inductive Ow where
  | d (d : Dat)
  | m (a : Addr)
  | l (a : Addr) (xs : List Ow)
  | t (a : Addr) (kvs : List (List Key × Dat))
  | z (a : Addr) (ob : Obj) (vs : List (List Key × V)) (kvs : List (List Key × Dat))
  | o (a C : Addr) (fs : List (Str × Dat))
  | q (a : Addr) (u : HO)
mutual
def Ow.fp : Ow → List Addr
  | .d _ => []
  | .m _ => []
  | .l a xs => a :: fps xs
  | .t a _ => [a]
  | .z a _ _ _ => [a]
  | .o a _ _ => [a]
  | .q _ _ => []
def fps : List Ow → List Addr
  | [] => []
  | o :: os => o.fp ++ fps os
end
inductive DenK (K : PySem.W.Frag) (D : Hp) : List (List Key × V) → List (List Key × Dat) → Prop
  | nil : DenK K D [] []
  | cons {k : List Key} {v : V} {d : Dat} {kvs : List (List Key × V)} {kds : List (List Key × Dat)} : Den K D v d → DenK K D kvs kds → DenK K D ((k, v) :: kvs) ((k, d) :: kds)
mutual
inductive DenO (K : PySem.W.Frag) (D H : Hp) : V → Ow → Prop
  | d {v : V} {x : Dat} : Den K D v x → DenO K D H v (.d x)
  | m (a : Addr) : DenO K D H (.ref a) (.m a)
  | l {a : Addr} {vs : List V} {xs : List Ow} : H a = some (.lst vs) → DenOs K D H vs xs → DenO K D H (.ref a) (.l a xs)
  | t {a : Addr} {kvs : List (List Key × V)} {kds : List (List Key × Dat)} : H a = some (.dT kvs) → DenK K D kvs kds → DenO K D H (.ref a) (.t a kds)
  | z {a : Addr} {ob : Obj} {kvs : List (List Key × V)} {kds : List (List Key × Dat)} : H a = some (.frz ob (.dT kvs)) → DenK K D kvs kds → DenO K D H (.ref a) (.z a ob kvs kds)
  | o {a C dx : Addr} {fs : List (Str × V)} {gs : List (Str × Dat)} : H a = some (.ins C dx fs) → DenF K D fs gs → DenO K D H (.ref a) (.o a C gs)
  | q {a : Addr} {u : HO} : D a = some u → plainO u = true → DenO K D H .non (.q a u)
inductive DenOs (K : PySem.W.Frag) (D H : Hp) : List V → List Ow → Prop
  | nil : DenOs K D H [] []
  | cons {v : V} {vs : List V} {o : Ow} {os : List Ow} : DenO K D H v o → DenOs K D H vs os → DenOs K D H (v :: vs) (o :: os)
end
theorem DenK.mono {K : PySem.W.Frag} {D D' : Hp} (e : Ex D D') : ∀ {kvs : List (List Key × V)} {kds : List (List Key × Dat)}, DenK K D kvs kds → DenK K D' kvs kds
  | _, _, .nil => .nil
  | _, _, .cons r t => .cons (r.mono e) (DenK.mono e t)
mutual
theorem DenO.keep {K : PySem.W.Frag} {D D' H H' : Hp} (e : Ex D D') : ∀ {v : V} {o : Ow}, DenO K D H v o → (∀ a ∈ o.fp, ∀ u, H a = some u → H' a = some u) → DenO K D' H' v o
  | _, _, .d h, _ => .d (h.mono e)
  | _, _, .m a, _ => .m a
  | _, _, .l h r, k => .l (k _ (by unfold Ow.fp; exact List.mem_cons_self) _ h) (DenOs.keep e r fun a ha u hu => k a (by unfold Ow.fp; exact List.mem_cons_of_mem _ ha) u hu)
  | _, _, .t h r, k => .t (k _ (by unfold Ow.fp; exact List.mem_cons_self) _ h) (r.mono e)
  | _, _, .z h r, k => .z (k _ (by unfold Ow.fp; exact List.mem_cons_self) _ h) (r.mono e)
  | _, _, .o h r, k => .o (k _ (by unfold Ow.fp; exact List.mem_cons_self) _ h) (r.mono e)
  | _, _, .q h p, _ => .q (e _ _ h) p
theorem DenOs.keep {K : PySem.W.Frag} {D D' H H' : Hp} (e : Ex D D') : ∀ {v : List V} {o : List Ow}, DenOs K D H v o → (∀ a ∈ fps o, ∀ u, H a = some u → H' a = some u) → DenOs K D' H' v o
  | _, _, .nil, _ => .nil
  | _, _, .cons h r, k => .cons (DenO.keep e h fun a ha u hu => k a (by unfold fps; exact List.mem_append_left _ ha) u hu) (DenOs.keep e r fun a ha u hu => k a (by unfold fps; exact List.mem_append_right _ ha) u hu)
end
mutual
theorem DenO.at {K : PySem.W.Frag} {D H : Hp} : ∀ {v : V} {o : Ow}, DenO K D H v o → ∀ a ∈ o.fp, ∃ u, H a = some u
  | _, _, .d _, a, ha => by unfold Ow.fp at ha; exact absurd ha (by simp)
  | _, _, .m _, a, ha => by unfold Ow.fp at ha; exact absurd ha (by simp)
  | _, _, .l h r, a, ha => by
    unfold Ow.fp at ha
    rcases List.mem_cons.mp ha with e | e
    · exact ⟨_, by rw [e]; exact h⟩
    · exact DenOs.at r a e
  | _, _, .t h _, a, ha => by
    unfold Ow.fp at ha
    rw [List.mem_singleton] at ha
    exact ⟨_, by rw [ha]; exact h⟩
  | _, _, .z h _, a, ha => by
    unfold Ow.fp at ha
    rw [List.mem_singleton] at ha
    exact ⟨_, by rw [ha]; exact h⟩
  | _, _, .o h _, a, ha => by
    unfold Ow.fp at ha
    rw [List.mem_singleton] at ha
    exact ⟨_, by rw [ha]; exact h⟩
  | _, _, .q _ _, a, ha => by unfold Ow.fp at ha; exact absurd ha (by simp)
theorem DenOs.at {K : PySem.W.Frag} {D H : Hp} : ∀ {v : List V} {o : List Ow}, DenOs K D H v o → ∀ a ∈ fps o, ∃ u, H a = some u
  | _, _, .nil, a, ha => by unfold fps at ha; exact absurd ha (by simp)
  | _, _, .cons h r, a, ha => by
    unfold fps at ha
    rcases List.mem_append.mp ha with e | e
    · exact DenO.at h a e
    · exact DenOs.at r a e
end
section
variable {K : PySem.W.Frag} {D H : Hp}
theorem DenOs.length : ∀ {vs : List V} {ds : List Ow}, DenOs K D H vs ds → vs.length = ds.length
  | _, _, .nil => rfl
  | _, _, .cons _ r => by rw [List.length_cons, List.length_cons, DenOs.length r]
theorem DenOs.get : ∀ {vs : List V} {ds : List Ow} {i : Nat} {d : Ow}, DenOs K D H vs ds → ds[i]? = some d → ∃ v, vs[i]? = some v ∧ DenO K D H v d
  | _, _, _, _, .nil, e => by simp at e
  | _, _, 0, _, .cons r _, e => by simp at e; subst e; exact ⟨_, rfl, r⟩
  | _, _, i + 1, d, .cons _ t, e => by
    obtain ⟨u, h1, h2⟩ := DenOs.get (i := i) (d := d) t (by simpa using e)
    exact ⟨u, by simpa using h1, h2⟩
theorem DenOs.app : ∀ {vs ws : List V} {ds es : List Ow}, DenOs K D H vs ds → DenOs K D H ws es → DenOs K D H (vs ++ ws) (ds ++ es)
  | _, _, _, _, .nil, s => s
  | _, _, _, _, .cons r t, s => .cons r (DenOs.app t s)
theorem DenOs.take : ∀ {vs : List V} {ds : List Ow} (n : Nat), DenOs K D H vs ds → DenOs K D H (vs.take n) (ds.take n)
  | _, _, 0, _ => .nil
  | _, _, _ + 1, .nil => .nil
  | _, _, n + 1, .cons r t => .cons r (DenOs.take n t)
theorem DenOs.set {v : V} {d : Ow} (r : DenO K D H v d) : ∀ {vs : List V} {ds : List Ow} (i : Nat), DenOs K D H vs ds → DenOs K D H (vs.set i v) (ds.set i d)
  | _, _, _, .nil => .nil
  | _, _, 0, .cons _ t => .cons r t
  | _, _, i + 1, .cons q t => .cons q (DenOs.set r i t)
/-- a list of data, seen as owned items -/
theorem DenOs.ofAll : ∀ {vs : List V} {ds : List Dat}, DenAll K D vs ds → DenOs K D H vs (ds.map Ow.d)
  | _, _, .nil => .nil
  | _, _, .cons r t => .cons (.d r) (DenOs.ofAll t)
theorem DenOs.toAll : ∀ {vs : List V} {ds : List Dat}, DenOs K D H vs (ds.map Ow.d) → DenAll K D vs ds
  | [], [], .nil => .nil
  | _ :: _, _ :: _, .cons r t => by
    cases r with
    | d r => exact .cons r (DenOs.toAll t)
end
theorem fps_map (ds : List Dat) : fps (ds.map Ow.d) = [] := by
  induction ds with
  | nil => rfl
  | cons d r ih =>
    show Ow.fp (.d d) ++ fps (r.map Ow.d) = []
    rw [ih]
    rfl
theorem fps_app : ∀ (xs ys : List Ow), fps (xs ++ ys) = fps xs ++ fps ys
  | [], ys => rfl
  | x :: xs, ys => by
    show x.fp ++ fps (xs ++ ys) = (x.fp ++ fps xs) ++ fps ys
    rw [fps_app xs ys, List.append_assoc]

abbrev Rh := List (Option Ow)
abbrev Tm := List (V × Ow)
def fpO : Option Ow → List Addr
  | none => []
  | some o => o.fp
def fpR : Rh → List Addr
  | [] => []
  | o :: r => fpO o ++ fpR r
def fpT : Tm → List Addr
  | [] => []
  | p :: r => p.2.fp ++ fpT r
inductive Slots (K : PySem.W.Frag) (D H : Hp) : St → Rh → Prop
  | nil : Slots K D H [] []
  | skip {v : Option V} {σ : St} {ρ : Rh} : Slots K D H σ ρ → Slots K D H (v :: σ) (none :: ρ)
  | cons {v : V} {o : Ow} {σ : St} {ρ : Rh} : DenO K D H v o → Slots K D H σ ρ → Slots K D H (some v :: σ) (some o :: ρ)
/-- the tables of code objects that lambdas are made by -/
class HasTabs (K : PySem.W.Frag) where
  tt : List (Addr × Str)
structure Sd (K : PySem.W.Frag) [HasTabs K] (D H : Hp) (T : Tm) (σ : St) (ρ : Rh) : Prop where
  ex : Ex D H
  tm : ∀ p ∈ T, DenO K D H p.1 p.2
  sl : Slots K D H σ ρ
  nd : (fpT T ++ fpR ρ).Nodup
  out : ∀ a ∈ fpT T ++ fpR ρ, D a = none
  tb : LamX.Tabs (HasTabs.tt K) D
end DL

/-! ### B. states change -/
namespace DL
open PySem L2 Evl
section
variable {K : PySem.W.Frag} [HasTabs K] {D D' H H' : Hp} {T T' : Tm} {σ σ' : St} {ρ ρ' : Rh} {v : V} {o : Ow} {i : Nat} {a p : Addr}
theorem Slots.keep (e : Ex D D') : ∀ {σ : St} {ρ : Rh}, Slots K D H σ ρ → (∀ a ∈ fpR ρ, ∀ u, H a = some u → H' a = some u) → Slots K D' H' σ ρ
  | _, _, .nil, _ => .nil
  | _, _, .skip r, k => .skip (Slots.keep e r fun a ha u hu => k a (by show a ∈ fpO none ++ _; exact List.mem_append_right _ ha) u hu)
  | _, _, .cons h r, k => .cons (h.keep e fun a ha u hu => k a (List.mem_append_left _ ha) u hu) (Slots.keep e r fun a ha u hu => k a (List.mem_append_right _ ha) u hu)
theorem Slots.length : ∀ {σ : St} {ρ : Rh}, Slots K D H σ ρ → σ.length = ρ.length
  | _, _, .nil => rfl
  | _, _, .skip r => by rw [List.length_cons, List.length_cons, Slots.length r]
  | _, _, .cons _ r => by rw [List.length_cons, List.length_cons, Slots.length r]
theorem Slots.get : ∀ {σ : St} {ρ : Rh} {i : Nat} {o : Ow}, Slots K D H σ ρ → ρ[i]? = some (some o) → ∃ v, σ[i]? = some (some v) ∧ DenO K D H v o
  | _, _, _, _, .nil, e => by simp at e
  | _, _, 0, _, .skip _, e => by simp at e
  | _, _, 0, _, .cons h _, e => by simp at e; subst e; exact ⟨_, rfl, h⟩
  | _, _, i + 1, o, .skip r, e => by
    obtain ⟨u, h1, h2⟩ := Slots.get (i := i) (o := o) r (by simpa using e)
    exact ⟨u, by simpa using h1, h2⟩
  | _, _, i + 1, o, .cons _ r, e => by
    obtain ⟨u, h1, h2⟩ := Slots.get (i := i) (o := o) r (by simpa using e)
    exact ⟨u, by simpa using h1, h2⟩
theorem Slots.at : ∀ {σ : St} {ρ : Rh}, Slots K D H σ ρ → ∀ a ∈ fpR ρ, ∃ u, H a = some u
  | _, _, .nil, a, ha => by exact absurd (show a ∈ ([] : List Addr) from ha) (by simp)
  | _, _, .skip r, a, ha => Slots.at r a ha
  | _, _, .cons h r, a, ha => by
    rcases List.mem_append.mp ha with e | e
    · exact h.at a e
    · exact Slots.at r a e
theorem Slots.none : ∀ {σ : St} {ρ : Rh} (i : Nat), Slots K D H σ ρ → Slots K D H σ (ρ.set i none)
  | _, _, _, .nil => .nil
  | _, _, 0, .skip r => .skip r
  | _, _, 0, .cons _ r => .skip r
  | _, _, i + 1, .skip r => .skip (Slots.none i r)
  | _, _, i + 1, .cons h r => .cons h (Slots.none i r)
theorem Slots.wipe1 : ∀ {σ : St} {ρ : Rh} (i : Nat), Slots K D H σ ρ → Slots K D H (σ.set i Option.none) (ρ.set i Option.none)
  | _, _, _, .nil => .nil
  | _, _, 0, .skip r => .skip r
  | _, _, 0, .cons _ r => .skip r
  | _, _, i + 1, .skip r => .skip (Slots.wipe1 i r)
  | _, _, i + 1, .cons h r => .cons h (Slots.wipe1 i r)
theorem Slots.set {v : V} {o : Ow} (q : DenO K D H v o) : ∀ {σ : St} {ρ : Rh} (i : Nat), Slots K D H σ ρ → Slots K D H (σ.set i (some v)) (ρ.set i (some o))
  | _, _, _, .nil => .nil
  | _, _, 0, .skip r => .cons q r
  | _, _, 0, .cons _ r => .cons q r
  | _, _, i + 1, .skip r => .skip (Slots.set q i r)
  | _, _, i + 1, .cons h r => .cons h (Slots.set q i r)
/-- the slot's own value told by another word -/
theorem Slots.put : ∀ {σ : St} {ρ : Rh} {i : Nat} {v : V} {o : Ow}, Slots K D H σ ρ → σ[i]? = some (some v) → DenO K D H v o → Slots K D H σ (ρ.set i (some o))
  | _, _, _, _, _, .nil, e, _ => by simp at e
  | _, _, 0, _, _, .skip r, e, q => by simp at e; subst e; exact .cons q r
  | _, _, 0, _, _, .cons _ r, e, q => by simp at e; subst e; exact .cons q r
  | _, _, i + 1, _, _, .skip r, e, q => .skip (Slots.put r (by simpa using e) q)
  | _, _, i + 1, _, _, .cons h r, e, q => .cons h (Slots.put r (by simpa using e) q)
theorem fpR_none : ∀ {ρ : Rh} {i : Nat} {x : Option Ow}, ρ[i]? = some x → (fpR ρ).Perm (fpO x ++ fpR (ρ.set i none))
  | [], _, _, e => by simp at e
  | y :: r, 0, x, e => by
    simp at e
    subst e
    exact List.Perm.refl _
  | y :: r, i + 1, x, e => by
    have ih := fpR_none (ρ := r) (i := i) (x := x) (by simpa using e)
    show (fpO y ++ fpR r).Perm (fpO x ++ (fpO y ++ fpR (r.set i none)))
    refine (ih.append_left (fpO y)).trans ?_
    rw [← List.append_assoc, ← List.append_assoc]
    exact List.perm_append_comm.append_right _
theorem fpR_out : ∀ {ρ : Rh} {i : Nat} (y : Option Ow), ρ.length ≤ i → ρ.set i y = ρ := fun y h => List.set_eq_of_length_le h
theorem fpR_set {ρ : Rh} {i : Nat} (o : Option Ow) (h : i < ρ.length) : (fpR (ρ.set i o)).Perm (fpO o ++ fpR (ρ.set i none)) := by
  have e : (ρ.set i o)[i]? = some o := by rw [List.getElem?_set_self h]
  have q := fpR_none e
  rw [List.set_set] at q
  exact q
theorem fpT_perm {T T' : Tm} (h : T.Perm T') : (fpT T).Perm (fpT T') := by
  induction h with
  | nil => exact List.Perm.refl _
  | cons x _ ih => exact ih.append_left _
  | swap x y l =>
    show (y.2.fp ++ (x.2.fp ++ fpT l)).Perm (x.2.fp ++ (y.2.fp ++ fpT l))
    rw [← List.append_assoc, ← List.append_assoc]
    exact List.perm_append_comm.append_right _
  | trans _ _ i1 i2 => exact i1.trans i2
theorem fpT_app : ∀ (A B : Tm), fpT (A ++ B) = fpT A ++ fpT B
  | [], B => rfl
  | x :: A, B => by
    show x.2.fp ++ fpT (A ++ B) = (x.2.fp ++ fpT A) ++ fpT B
    rw [fpT_app A B, List.append_assoc]
theorem mem_fpT : ∀ {T : Tm} {p : V × Ow} {a : Addr}, p ∈ T → a ∈ p.2.fp → a ∈ fpT T
  | x :: T, p, a, h, k => by
    rcases List.mem_cons.mp h with e | e
    · subst e
      exact List.mem_append_left _ k
    · exact List.mem_append_right _ (mem_fpT e k)

/-- the one lemma: what a state needs, its addresses up to order -/
theorem Sd.mk' {L : List Addr} (ex : Ex D H) (tm : ∀ p ∈ T, DenO K D H p.1 p.2) (sl : Slots K D H σ ρ) (pm : (fpT T ++ fpR ρ).Perm L) (nd : L.Nodup) (out : ∀ a ∈ L, D a = none) (tb : LamX.Tabs (HasTabs.tt K) D := by exact Sd.tb (by assumption)) : Sd K D H T σ ρ :=
  ⟨ex, tm, sl, pm.nodup_iff.mpr nd, fun a ha => out a (pm.mem_iff.mp ha), tb⟩
theorem Sd.len (h : Sd K D H T σ ρ) : σ.length = ρ.length := h.sl.length
theorem Sd.at (h : Sd K D H T σ ρ) : ∀ a ∈ fpT T ++ fpR ρ, ∃ u, H a = some u := by
  intro a ha
  rcases List.mem_append.mp ha with e | e
  · have : ∀ (T : Tm), (∀ p ∈ T, DenO K D H p.1 p.2) → a ∈ fpT T → ∃ u, H a = some u := by
      intro T
      induction T with
      | nil => intro _ z; exact absurd (show a ∈ ([] : List Addr) from z) (by simp)
      | cons x T ih =>
        intro q z
        rcases List.mem_append.mp z with z | z
        · exact (q x List.mem_cons_self).at a z
        · exact ih (fun p hp => q p (List.mem_cons_of_mem _ hp)) z
    exact this T h.tm e
  · exact h.sl.at a e
theorem Sd.grow (h : Sd K D H T σ ρ) (e : Ex D D') (x : Ex D' H') (k : ∀ a ∈ fpT T ++ fpR ρ, ∀ u, H a = some u → H' a = some u) (o : ∀ a ∈ fpT T ++ fpR ρ, D' a = none) : Sd K D' H' T σ ρ :=
  ⟨x, fun p hp => (h.tm p hp).keep e fun a ha u hu => k a (List.mem_append_left _ (mem_fpT hp ha)) u hu, h.sl.keep e fun a ha u hu => k a (List.mem_append_right _ ha) u hu, h.nd, o, h.tb.ext fun b o hb => e b o hb⟩
theorem Sd.dnone (h : Sd K D H T σ ρ) (hp : H p = none) : D p = none := by
  cases q : D p with
  | none => rfl
  | some u =>
    have := h.ex p u q
    rw [hp] at this
    cases this
theorem Sd.nep (h : Sd K D H T σ ρ) (hp : H p = none) : ∀ a ∈ fpT T ++ fpR ρ, a ≠ p := fun a ha e => by
  obtain ⟨u, hu⟩ := h.at a ha
  rw [e, hp] at hu
  cases hu
/-- a new thing, to be data -/
theorem Sd.new (h : Sd K D H T σ ρ) (hp : H p = none) (u : HO) : Sd K (upd D p u) (upd H p u) T σ ρ := by
  refine h.grow (Ex.new (h.dnone hp)) (fun a x e => ?_) (fun a ha x hx => by rw [upd_ne (h.nep hp a ha)]; exact hx) fun a ha => by rw [upd_ne (h.nep hp a ha)]; exact h.out a ha
  by_cases q : a = p
  · subst q; rw [upd_same] at e ⊢; exact e
  · rw [upd_ne q] at e ⊢; exact h.ex a x e
/-- a new thing, to be owned -/
theorem Sd.newO (h : Sd K D H T σ ρ) (hp : H p = none) (u : HO) : Sd K D (upd H p u) T σ ρ :=
  h.grow (Ex.refl D) (fun a x e => by rw [upd_ne (ne_of_none (h.ex a x e) hp)]; exact h.ex a x e) (fun a ha x hx => by rw [upd_ne (h.nep hp a ha)]; exact hx) h.out
/-- nothing that the state knows is touched -/
theorem Sd.keepH (h : Sd K D H T σ ρ) (k : Ex H H') : Sd K D H' T σ ρ := h.grow (Ex.refl D) (h.ex.trans k) (fun a _ u hu => k a u hu) h.out
theorem Sd.push {d : Dat} (h : Sd K D H T σ ρ) (q : Den K D v d) : Sd K D H ((v, .d d) :: T) σ ρ :=
  ⟨h.ex, fun p hp => by rcases List.mem_cons.mp hp with e | e; (· subst e; exact .d q); exact h.tm p e, h.sl, h.nd, h.out, h.tb⟩
theorem Sd.perm (h : Sd K D H T σ ρ) (m : T.Perm T') : Sd K D H T' σ ρ :=
  .mk' h.ex (fun p hp => h.tm p (m.mem_iff.mpr hp)) h.sl ((fpT_perm m).symm.append_right _) h.nd h.out
theorem Sd.popN {A : Tm} (h : Sd K D H (A ++ T) σ ρ) : Sd K D H T σ ρ := by
  refine ⟨h.ex, fun p hp => h.tm p (List.mem_append_right _ hp), h.sl, ?_, fun a ha => h.out a ?_, h.tb⟩
  · have q := h.nd
    rw [fpT_app, List.append_assoc] at q
    exact (List.nodup_append.mp q).2.1
  · rw [fpT_app, List.append_assoc]
    exact List.mem_append_right _ ha
theorem Sd.pop {q : V × Ow} (h : Sd K D H (q :: T) σ ρ) : Sd K D H T σ ρ := Sd.popN (A := [q]) h
theorem Sd.pop2 {q r : V × Ow} (h : Sd K D H (q :: r :: T) σ ρ) : Sd K D H (q :: T) σ ρ := (h.perm (List.Perm.swap _ _ _)).pop
theorem Sd.forget (h : Sd K D H T σ ρ) (i : Nat) : Sd K D H T σ (ρ.set i none) := by
  by_cases hi : i < ρ.length
  · have e := fpR_none (ρ := ρ) (i := i) (x := ρ[i]) (by simp [hi])
    refine ⟨h.ex, h.tm, h.sl.none i, ?_, fun a ha => h.out a ?_, h.tb⟩
    · have q : (fpT T ++ (fpO ρ[i] ++ fpR (ρ.set i none))).Nodup := (e.append_left _).nodup_iff.mp h.nd
      rw [← List.append_assoc] at q
      have q2 : (fpO ρ[i] ++ fpT T ++ fpR (ρ.set i none)).Nodup := (List.perm_append_comm.append_right _).nodup_iff.mp q
      rw [List.append_assoc] at q2
      exact (List.nodup_append.mp q2).2.1
    · rcases List.mem_append.mp ha with z | z
      · exact List.mem_append_left _ z
      · exact List.mem_append_right _ (e.mem_iff.mpr (List.mem_append_right _ z))
  · rw [fpR_out none (by omega)]
    exact h
/-- a temporary goes into a slot -/
theorem Sd.toSlot (h : Sd K D H ((v, o) :: T) σ ρ) (i : Nat) (hi : i < σ.length) : Sd K D H T (σ.set i (some v)) (ρ.set i (some o)) := by
  have hl : i < ρ.length := by rw [← h.len]; exact hi
  have g := h.forget i
  refine .mk' (L := fpT ((v, o) :: T) ++ fpR (ρ.set i none)) g.ex (fun p hp => g.tm p (List.mem_cons_of_mem _ hp)) (h.sl.set (h.tm (v, o) List.mem_cons_self) i) ?_ g.nd g.out
  show (fpT T ++ fpR (ρ.set i (some o))).Perm ((o.fp ++ fpT T) ++ fpR (ρ.set i none))
  refine ((fpR_set (some o) hl).append_left _).trans ?_
  show (fpT T ++ (o.fp ++ fpR (ρ.set i none))).Perm ((o.fp ++ fpT T) ++ fpR (ρ.set i none))
  rw [← List.append_assoc]
  exact List.perm_append_comm.append_right _
theorem Sd.getd {d : Dat} (h : Sd K D H T σ ρ) (e : ρ[i]? = some (some (.d d))) : ∃ v, σ[i]? = some (some v) ∧ Den K D v d := by
  obtain ⟨v, h1, h2⟩ := h.sl.get e
  cases h2 with
  | d q => exact ⟨v, h1, q⟩
def Ow.root : Ow → Option Addr
  | .l a _ => some a
  | .t a _ => some a
  | .z a _ _ _ => some a
  | .o a _ _ => some a
  | _ => none
theorem root_ref {a : Addr} (e : o.root = some a) (q : DenO K D H v o) : v = .ref a := by
  cases q <;> simp [Ow.root] at e <;> subst e <;> rfl
theorem Sd.getl {xs : List Ow} (h : Sd K D H T σ ρ) (e : ρ[i]? = some (some (.l a xs))) : σ[i]? = some (some (.ref a)) ∧ ∃ vs, H a = some (.lst vs) ∧ DenOs K D H vs xs := by
  obtain ⟨v, h1, h2⟩ := h.sl.get e
  cases h2 with
  | l q r => exact ⟨h1, _, q, r⟩
theorem Sd.getz {ob : Obj} {kvs : List (List Key × V)} {kds : List (List Key × Dat)} (h : Sd K D H T σ ρ) (e : ρ[i]? = some (some (.z a ob kvs kds))) : σ[i]? = some (some (.ref a)) ∧ H a = some (.frz ob (.dT kvs)) ∧ DenK K D kvs kds := by
  obtain ⟨v, h1, h2⟩ := h.sl.get e
  cases h2 with
  | z q r => exact ⟨h1, q, r⟩
theorem Sd.gett {kds : List (List Key × Dat)} (h : Sd K D H T σ ρ) (e : ρ[i]? = some (some (.t a kds))) : σ[i]? = some (some (.ref a)) ∧ ∃ kvs, H a = some (.dT kvs) ∧ DenK K D kvs kds := by
  obtain ⟨v, h1, h2⟩ := h.sl.get e
  cases h2 with
  | t q r => exact ⟨h1, _, q, r⟩
theorem Sd.geto {C : Addr} {gs : List (Str × Dat)} (h : Sd K D H T σ ρ) (e : ρ[i]? = some (some (.o a C gs))) : σ[i]? = some (some (.ref a)) ∧ ∃ dx fs, H a = some (.ins C dx fs) ∧ DenF K D fs gs := by
  obtain ⟨v, h1, h2⟩ := h.sl.get e
  cases h2 with
  | o q r => exact ⟨h1, _, _, q, r⟩
/-- an owned slot's thing is handed on -/
theorem Sd.move (h : Sd K D H T σ ρ) (e : ρ[i]? = some (some o)) (r : o.root = some a) : σ[i]? = some (some (.ref a)) ∧ Sd K D H ((.ref a, o) :: T) σ (ρ.set i (some (.m a))) := by
  obtain ⟨v, h1, h2⟩ := h.sl.get e
  have hv := root_ref r h2
  subst hv
  have hl : i < ρ.length := (List.getElem?_eq_some_iff.mp e).1
  refine ⟨h1, .mk' (L := fpT T ++ fpR ρ) h.ex (fun p hp => ?_) (h.sl.put h1 (.m a)) ?_ h.nd h.out⟩
  · rcases List.mem_cons.mp hp with z | z
    · subst z; exact h2
    · exact h.tm p z
  · show ((o.fp ++ fpT T) ++ fpR (ρ.set i (some (.m a)))).Perm (fpT T ++ fpR ρ)
    refine ((fpR_set (some (.m a)) hl).append_left _).trans ?_
    show ((o.fp ++ fpT T) ++ fpR (ρ.set i none)).Perm (fpT T ++ fpR ρ)
    refine (List.perm_append_comm.append_right _).trans ?_
    rw [List.append_assoc]
    exact (fpR_none e).symm.append_left _
/-- .. and comes back -/
theorem Sd.back (h : Sd K D H ((v, o) :: T) σ ρ) (r : o.root = some a) (e : ρ[i]? = some (some (.m a))) : Sd K D H T σ (ρ.set i (some o)) := by
  have q := h.tm (v, o) List.mem_cons_self
  have hv := root_ref r q
  obtain ⟨w, h1, h2⟩ := h.sl.get e
  have hw : w = .ref a := by cases h2; rfl
  have hl : i < ρ.length := (List.getElem?_eq_some_iff.mp e).1
  refine .mk' (L := fpT ((v, o) :: T) ++ fpR ρ) h.ex (fun p hp => h.tm p (List.mem_cons_of_mem _ hp)) (h.sl.put h1 (by rw [hw, ← hv]; exact q)) ?_ h.nd h.out
  show (fpT T ++ fpR (ρ.set i (some o))).Perm ((o.fp ++ fpT T) ++ fpR ρ)
  refine ((fpR_set (some o) hl).append_left _).trans ?_
  show (fpT T ++ (o.fp ++ fpR (ρ.set i none))).Perm ((o.fp ++ fpT T) ++ fpR ρ)
  rw [← List.append_assoc]
  exact (List.perm_append_comm).append (fpR_none e).symm
/-- a slot's owned list is changed -/
theorem Sd.write {xs ys : List Ow} {ws : List V} {L : List Addr} {T' : Tm} (h : Sd K D H T σ ρ) (e : ρ[i]? = some (some (.l a xs))) (q : DenOs K D H ws ys) (hT : ∀ p ∈ T', p ∈ T ∨ DenO K D H p.1 p.2)
    (nn : ∀ b ∈ fps ys ++ fpT T', b ≠ a) (hp : (fps ys ++ fpT T').Perm L) (hL : (L ++ (a :: fpR (ρ.set i none))).Nodup) (ho : ∀ b ∈ L, D b = none) : Sd K D (upd H a (.lst ws)) T' σ (ρ.set i (some (.l a ys))) := by
  obtain ⟨s1, vs, ha, hv⟩ := h.getl e
  have hl : i < ρ.length := (List.getElem?_eq_some_iff.mp e).1
  have fa : D a = none := h.out a (List.mem_append_right _ ((fpR_none e).mem_iff.mpr (List.mem_append_left _ List.mem_cons_self)))
  have eo : ∀ b ∈ fpR (ρ.set i none), D b = none := fun b hb => h.out b (List.mem_append_right _ ((fpR_none e).mem_iff.mpr (List.mem_append_right _ hb)))
  have na : ∀ b ∈ fpR (ρ.set i none), b ≠ a := fun b hb z => by
    have := (List.nodup_append.mp hL).2.1
    rw [List.nodup_cons] at this
    exact this.1 (by rw [← z]; exact hb)
  have sl0 : Slots K D (upd H a (.lst ws)) σ (ρ.set i none) := (h.sl.none i).keep (Ex.refl D) fun b hb u hu => by rw [upd_ne (na b hb)]; exact hu
  have sl1 := sl0.put s1 (o := .l a ys) (.l upd_same (q.keep (Ex.refl D) fun b hb u hu => by rw [upd_ne (nn b (List.mem_append_left _ hb))]; exact hu))
  rw [List.set_set] at sl1
  refine .mk' (L := L ++ (a :: fpR (ρ.set i none))) (fun b u hb => by rw [upd_ne (fun z => by rw [z, fa] at hb; cases hb)]; exact h.ex b u hb) (fun p hp => ?_) sl1 ?_ hL (fun b hb => ?_)
  · have g : DenO K D H p.1 p.2 := by
      rcases hT p hp with z | z
      · exact h.tm p z
      · exact z
    exact g.keep (Ex.refl D) fun b hb u hu => by rw [upd_ne (nn b (List.mem_append_right _ (mem_fpT hp hb)))]; exact hu
  · refine ((fpR_set (some (.l a ys)) hl).append_left _).trans ?_
    show (fpT T' ++ ((a :: fps ys) ++ fpR (ρ.set i none))).Perm (L ++ (a :: fpR (ρ.set i none)))
    have s1 : (fpT T' ++ ((a :: fps ys) ++ fpR (ρ.set i none))).Perm ((fps ys ++ fpT T') ++ (a :: fpR (ρ.set i none))) := by
      rw [← List.append_assoc]
      refine (List.perm_append_comm.append_right _).trans ?_
      show (a :: (fps ys ++ fpT T' ++ fpR (ρ.set i none))).Perm _
      exact List.perm_middle.symm
    exact s1.trans (hp.append_right _)
  · rcases List.mem_append.mp hb with z | z
    · exact ho b z
    · rcases List.mem_cons.mp z with z | z
      · rw [z]; exact fa
      · exact eo b z
end
end DL

/-! ### C. readings over states -/
namespace DL
open PySem L2 Evl
inductive Re where
  | ok (o : Ow)
  | ex (C : Addr) (fs : List (Str × Dat))
inductive Out where
  | nx (ρ : Rh) | rt (o : Ow) (ρ : Rh) | bk (ρ : Rh) | ct (ρ : Rh) | xc (C : Addr) (fs : List (Str × Dat)) (ρ : Rh)
abbrev EPost := Re → Rh → Prop
abbrev SPost := Out → Prop
def XAt (K : PySem.W.Frag) (D H : Hp) (d : Addr) (fs : List (Str × Dat)) : Prop := ∃ vs, H d = some (.xd vs) ∧ DenF K D vs fs
def XOk (K : PySem.W.Frag) [HasTabs K] (E : XK) (T : Tm) (σ : St) (P : EPost) : Prop := ∀ C fs ρ' D' H' d, P (.ex C fs) ρ' → Sd K D' H' T σ ρ' → XAt K D' H' d fs → E (.ref C) (some d) H'
def EvP (K : PySem.W.Frag) [HasTabs K] (E : XK) (te : TE) (ρ : Rh) (P : EPost) : Prop :=
  ∀ D H T σ (Q : VK), Sd K D H T σ ρ → (∀ v o ρ' D' H', P (.ok o) ρ' → Sd K D' H' ((v, o) :: T) σ ρ' → Q v H') → XOk K E T σ P → te σ H Q
def TvP (K : PySem.W.Frag) [HasTabs K] (E : XK) (tt : TT) (ρ : Rh) (P : EPost) : Prop :=
  ∀ D H T σ (Q : Bool → Hp → Prop), Sd K D H T σ ρ → (∀ b ρ' D' H', P (.ok (.d (.bl b))) ρ' → Sd K D' H' T σ ρ' → Q b H') → XOk K E T σ P → tt σ H Q
def AvP (K : PySem.W.Frag) [HasTabs K] (E : XK) (ta : TA) (ρ : Rh) (P : List Ow → Rh → Prop) (X : EPost) : Prop :=
  ∀ D H T σ (Q : List V → Hp → Prop), Sd K D H T σ ρ → (∀ vs os ρ' D' H', P os ρ' → vs.length = os.length → Sd K D' H' (vs.zip os ++ T) σ ρ' → Q vs H') → XOk K E T σ X → ta σ H Q
structure Wd (K : PySem.W.Frag) [HasTabs K] (E : XK) (T : Tm) (En : Ends) (P : SPost) : Prop where
  nx : ∀ ρ' D' H' σ', P (.nx ρ') → Sd K D' H' T σ' ρ' → En.nx σ' H'
  rt : ∀ v o ρ' D' H' σ', P (.rt o ρ') → Sd K D' H' ((v, o) :: T) σ' ρ' → En.rt v H'
  bk : ∀ ρ' D' H' σ', P (.bk ρ') → Sd K D' H' T σ' ρ' → En.bk σ' H'
  ct : ∀ ρ' D' H' σ', P (.ct ρ') → Sd K D' H' T σ' ρ' → En.ct σ' H'
  xc : ∀ C fs ρ' D' H' σ' d, P (.xc C fs ρ') → Sd K D' H' T σ' ρ' → XAt K D' H' d fs → E (.ref C) (some d) H'
def SvP (K : PySem.W.Frag) [HasTabs K] (E : XK) (ts : TS) (ρ : Rh) (P : SPost) : Prop :=
  ∀ D H T σ En, Sd K D H T σ ρ → Wd K E T En P → ts En σ H
/-- go on with a value; an exception is handed on -/
def bnd (k : Ow → Rh → Prop) (P : EPost) : EPost := fun r ρ => match r with
  | .ok o => k o ρ
  | .ex C fs => P (.ex C fs) ρ
def bndS (k : Ow → Rh → Prop) (P : SPost) : EPost := fun r ρ => match r with
  | .ok o => k o ρ
  | .ex C fs => P (.xc C fs ρ)
def seqS (k : Rh → Prop) (P : SPost) : SPost := fun o => match o with
  | .nx ρ => k ρ
  | o => P o
section
variable {K : PySem.W.Frag} [HasTabs K] {E : XK} {te ta tb : TE} {tt tu : TT} {tas : TA} {ts tw : TS} {ρ : Rh} {P P' : EPost} {S : SPost} {D D' H H' : Hp} {T : Tm} {σ : St} {v : V} {o : Ow} {i : Nat} {a p : Addr}
theorem EvP.mono (h : EvP K E te ρ P) (m : ∀ r ρ', P r ρ' → P' r ρ') : EvP K E te ρ P' := fun D H T σ Q s k x => h D H T σ Q s (fun v o ρ' D' H' q => k v o ρ' D' H' (m _ _ q)) fun C fs ρ' D' H' d q => x C fs ρ' D' H' d (m _ _ q)
theorem SvP.mono {S' : SPost} (h : SvP K E ts ρ S) (m : ∀ o, S o → S' o) : SvP K E ts ρ S' := fun D H T σ En s w => h D H T σ En s
  ⟨fun ρ' D' H' σ' q => w.nx ρ' D' H' σ' (m _ q), fun v o ρ' D' H' σ' q => w.rt v o ρ' D' H' σ' (m _ q), fun ρ' D' H' σ' q => w.bk ρ' D' H' σ' (m _ q), fun ρ' D' H' σ' q => w.ct ρ' D' H' σ' (m _ q), fun C fs ρ' D' H' σ' d q => w.xc C fs ρ' D' H' σ' d (m _ q)⟩
/-- weaker knowledge of slots -/
inductive Wk : Rh → Rh → Prop
  | nil : Wk [] []
  | skip {x : Option Ow} {r r' : Rh} : Wk r r' → Wk (x :: r) (none :: r')
  | cons {x : Option Ow} {r r' : Rh} : Wk r r' → Wk (x :: r) (x :: r')
theorem Wk.refl : ∀ ρ : Rh, Wk ρ ρ
  | [] => .nil
  | _ :: r => .cons (Wk.refl r)
theorem Wk.slots : ∀ {ρ ρ' : Rh} {σ : St}, Wk ρ ρ' → Slots K D H σ ρ → Slots K D H σ ρ'
  | _, _, _, .nil, h => h
  | _, _, _, .skip w, .skip r => .skip (Wk.slots w r)
  | _, _, _, .skip w, .cons _ r => .skip (Wk.slots w r)
  | _, _, _, .cons w, .skip r => .skip (Wk.slots w r)
  | _, _, _, .cons w, .cons h r => .cons h (Wk.slots w r)
theorem Wk.sub : ∀ {ρ ρ' : Rh}, Wk ρ ρ' → (fpR ρ').Sublist (fpR ρ)
  | _, _, .nil => List.Sublist.refl _
  | _, _, .skip w => (Wk.sub w).trans (List.sublist_append_right _ _)
  | _, _, .cons w => (Wk.sub w).append_left _
theorem Sd.wk {ρ' : Rh} (h : Sd K D H T σ ρ) (w : Wk ρ ρ') : Sd K D H T σ ρ' :=
  ⟨h.ex, h.tm, w.slots h.sl, (w.sub.append_left _).nodup h.nd, fun a ha => h.out a ((w.sub.append_left _).subset ha), h.tb⟩
/-- an owned thing back into the slot that stands for it -/
def bkG (o : Ow) (b : Addr) : Rh → Rh
  | [] => []
  | some (.m c) :: r => if c = b then some o :: r else some (.m c) :: bkG o b r
  | none :: r => none :: bkG o b r
  | some (.d x) :: r => some (.d x) :: bkG o b r
  | some (.l c x) :: r => some (.l c x) :: bkG o b r
  | some (.t c x) :: r => some (.t c x) :: bkG o b r
  | some (.z c y z x) :: r => some (.z c y z x) :: bkG o b r
  | some (.o c C x) :: r => some (.o c C x) :: bkG o b r
  | some (.q c x) :: r => some (.q c x) :: bkG o b r
def bk : Ow → Rh → Rh
  | .d _, ρ => ρ
  | .m _, ρ => ρ
  | .l a xs, ρ => bkG (.l a xs) a ρ
  | .t a xs, ρ => bkG (.t a xs) a ρ
  | .z a y z xs, ρ => bkG (.z a y z xs) a ρ
  | .o a C xs, ρ => bkG (.o a C xs) a ρ
  | .q _ _, ρ => ρ
def bks : List Ow → Rh → Rh
  | [], ρ => ρ
  | o :: os, ρ => bks os (bk o ρ)
theorem bkG_is (o : Ow) (b : Addr) : ∀ ρ : Rh, bkG o b ρ = ρ ∨ ∃ i, ρ[i]? = some (some (.m b)) ∧ bkG o b ρ = ρ.set i (some o)
  | [] => .inl rfl
  | none :: r => by
    rcases bkG_is o b r with e | ⟨i, e, q⟩
    · exact .inl (by unfold bkG; rw [e])
    · exact .inr ⟨i + 1, e, by unfold bkG; rw [q]; rfl⟩
  | some (.d x) :: r => by
    rcases bkG_is o b r with e | ⟨i, e, q⟩
    · exact .inl (by unfold bkG; rw [e])
    · exact .inr ⟨i + 1, e, by unfold bkG; rw [q]; rfl⟩
  | some (.l c x) :: r => by
    rcases bkG_is o b r with e | ⟨i, e, q⟩
    · exact .inl (by unfold bkG; rw [e])
    · exact .inr ⟨i + 1, e, by unfold bkG; rw [q]; rfl⟩
  | some (.t c x) :: r => by
    rcases bkG_is o b r with e | ⟨i, e, q⟩
    · exact .inl (by unfold bkG; rw [e])
    · exact .inr ⟨i + 1, e, by unfold bkG; rw [q]; rfl⟩
  | some (.z c y z x) :: r => by
    rcases bkG_is o b r with e | ⟨i, e, q⟩
    · exact .inl (by unfold bkG; rw [e])
    · exact .inr ⟨i + 1, e, by unfold bkG; rw [q]; rfl⟩
  | some (.o c C x) :: r => by
    rcases bkG_is o b r with e | ⟨i, e, q⟩
    · exact .inl (by unfold bkG; rw [e])
    · exact .inr ⟨i + 1, e, by unfold bkG; rw [q]; rfl⟩
  | some (.q c x) :: r => by
    rcases bkG_is o b r with e | ⟨i, e, q⟩
    · exact .inl (by unfold bkG; rw [e])
    · exact .inr ⟨i + 1, e, by unfold bkG; rw [q]; rfl⟩
  | some (.m c) :: r => by
    by_cases h : c = b
    · subst h
      exact .inr ⟨0, rfl, by unfold bkG; rw [if_pos rfl]; rfl⟩
    · rcases bkG_is o b r with e | ⟨i, e, q⟩
      · exact .inl (by unfold bkG; rw [if_neg h, e])
      · exact .inr ⟨i + 1, e, by unfold bkG; rw [if_neg h, q]; rfl⟩
theorem Sd.bkG (h : Sd K D H ((v, o) :: T) σ ρ) (r : o.root = some a) : Sd K D H T σ (bkG o a ρ) := by
  rcases bkG_is o a ρ with e | ⟨i, e, q⟩
  · rw [e]; exact h.pop
  · rw [q]; exact h.back r e
theorem Sd.bk (h : Sd K D H ((v, o) :: T) σ ρ) : Sd K D H T σ (bk o ρ) := by
  cases o with
  | d x => exact h.pop
  | m x => exact h.pop
  | l a xs => exact h.bkG rfl
  | t a xs => exact h.bkG rfl
  | z a y z xs => exact h.bkG rfl
  | o a C xs => exact h.bkG rfl
  | q a u => exact h.pop
theorem Sd.bks : ∀ {vs : List V} {os : List Ow} {ρ : Rh}, vs.length = os.length → Sd K D H (vs.zip os ++ T) σ ρ → Sd K D H T σ (bks os ρ)
  | [], [], _, _, h => h
  | v :: vs, o :: os, ρ, e, h => Sd.bks (vs := vs) (os := os) (by simpa using e) (Sd.bk (T := vs.zip os ++ T) h)
/-- the temporaries below are kept while one above is put back -/
theorem Sd.bk2 {w : V} {x : Ow} (h : Sd K D H ((w, x) :: (v, o) :: T) σ ρ) : Sd K D H ((w, x) :: T) σ (DL.bk o ρ) := Sd.bk (T := (w, x) :: T) (h.perm (List.Perm.swap _ _ _))
theorem zip_mid {vs : List V} {os : List Ow} {q : V × Ow} : (q :: (vs.zip os ++ T)).Perm (vs.zip os ++ q :: T) := List.perm_middle.symm
theorem Sd.bks2 {vs : List V} {os : List Ow} {q : V × Ow} (e : vs.length = os.length) (h : Sd K D H (q :: (vs.zip os ++ T)) σ ρ) : Sd K D H (q :: T) σ (DL.bks os ρ) := Sd.bks (T := q :: T) e (h.perm zip_mid)

/-! values that need no heap -/
def Dat.atm : Dat → Bool
  | .non => true
  | .bl _ => true
  | .int _ => true
  | .str _ => true
  | .ty _ => true
  | _ => false
def Dat.val : Dat → V
  | .bl b => .bl b
  | .int i => .int i
  | .str x => .str x
  | .ty n => .ty n
  | _ => .non
theorem Den.at_v {d : Dat} (h : d.atm = true) : Den K D d.val d := by
  cases d <;> first | exact .non | exact .bl _ | exact .int _ | exact .str _ | exact .ty _ | cases h
theorem Den.v_at {d : Dat} (q : Den K D v d) (h : d.atm = true) : v = d.val := by
  cases q <;> first | rfl | cases h
/-! owned things read as data -/
mutual
def Ow.dat : Ow → Dat
  | .d x => x
  | .m _ => .non
  | .l _ xs => .lst (dats xs)
  | .t _ _ => .non
  | .z _ _ _ _ => .non
  | .o _ C fs => .obj C fs
  | .q _ _ => .non
def dats : List Ow → List Dat
  | [] => []
  | o :: os => o.dat :: dats os
end
mutual
def Ow.okR : Ow → Bool
  | .d _ => true
  | .m _ => false
  | .l _ xs => okRs xs
  | .t _ _ => false
  | .z _ _ _ _ => false
  | .o _ _ _ => true
  | .q _ _ => false
def okRs : List Ow → Bool
  | [] => true
  | o :: os => o.okR && okRs os
end
mutual
theorem DenO.read {K : PySem.W.Frag} [HasTabs K] {D H : Hp} (e : Ex D H) : ∀ {v : V} {o : Ow}, DenO K D H v o → o.okR = true → Den K H v o.dat
  | _, _, .d h, _ => h.mono e
  | _, _, .m a, k => by cases k
  | _, _, .l h r, k => .lst h (DenOs.read e r (by unfold Ow.okR at k; exact k))
  | _, _, .t h r, k => by cases k
  | _, _, .z h r, k => by cases k
  | _, _, .o h r, _ => .obj h (r.mono e)
  | _, _, .q _ _, k => by cases k
theorem DenOs.read {K : PySem.W.Frag} [HasTabs K] {D H : Hp} (e : Ex D H) : ∀ {v : List V} {o : List Ow}, DenOs K D H v o → okRs o = true → DenAll K H v (dats o)
  | _, _, .nil, _ => .nil
  | _, _, .cons h r, k => by
    unfold okRs at k
    rw [Bool.and_eq_true] at k
    exact .cons (DenO.read e h k.1) (DenOs.read e r k.2)
end
theorem dats_map (ds : List Dat) : dats (ds.map Ow.d) = ds := by
  induction ds with
  | nil => rfl
  | cons d r ih =>
    show d :: dats (r.map Ow.d) = d :: r
    rw [ih]
theorem okRs_map (ds : List Dat) : okRs (ds.map Ow.d) = true := by
  induction ds with
  | nil => rfl
  | cons d r ih => exact ih
theorem tm_all : ∀ {vs : List V} {os : List Ow}, (∀ p ∈ vs.zip os, DenO K D H p.1 p.2) → vs.length = os.length → DenOs K D H vs os
  | [], [], _, _ => .nil
  | v :: vs, o :: os, h, e => .cons (h (v, o) List.mem_cons_self) (tm_all (fun p hp => h p (List.mem_cons_of_mem _ hp)) (by simpa using e))

/-! ### expressions -/
theorem ev_c {w : V} {x : Dat} (h : x.atm = true) (e : x.val = w) (q : P (.ok (.d x)) ρ) : EvP K E (tC w) ρ P := fun D H T σ Q s k _ => k w _ ρ D H q (s.push (by rw [← e]; exact Den.at_v h))
theorem ev_i {j : Int} (q : P (.ok (.d (.int j))) ρ) : EvP K E (tC (.int j)) ρ P := ev_c (x := .int j) rfl rfl q
theorem ev_b {b : Bool} (q : P (.ok (.d (.bl b))) ρ) : EvP K E (tC (.bl b)) ρ P := ev_c (x := .bl b) rfl rfl q
theorem ev_n (q : P (.ok (.d .non)) ρ) : EvP K E (tC .non) ρ P := ev_c (x := .non) rfl rfl q
theorem ev_s {x : Str} (q : P (.ok (.d (.str x))) ρ) : EvP K E (tC (.str x)) ρ P := ev_c (x := .str x) rfl rfl q
theorem ev_v {x : Dat} (e : ρ[i]? = some (some (.d x))) (q : P (.ok (.d x)) ρ) : EvP K E (tVar i) ρ P := fun D H T σ Q s k _ => by
  obtain ⟨v, h1, h2⟩ := s.getd e
  exact ⟨v, h1, k v _ ρ D H q (s.push h2)⟩
theorem ev_l {xs : List Ow} (e : ρ[i]? = some (some (.l a xs))) (q : P (.ok (.l a xs)) (ρ.set i (some (.m a)))) : EvP K E (tVar i) ρ P := fun D H T σ Q s k _ => by
  obtain ⟨h1, h2⟩ := s.move e rfl
  exact ⟨_, h1, k _ _ _ D H q h2⟩
theorem ev_t {xs : List (List Key × Dat)} (e : ρ[i]? = some (some (.t a xs))) (q : P (.ok (.t a xs)) (ρ.set i (some (.m a)))) : EvP K E (tVar i) ρ P := fun D H T σ Q s k _ => by
  obtain ⟨h1, h2⟩ := s.move e rfl
  exact ⟨_, h1, k _ _ _ D H q h2⟩
theorem ev_o {C : Addr} {xs : List (Str × Dat)} (e : ρ[i]? = some (some (.o a C xs))) (q : P (.ok (.o a C xs)) (ρ.set i (some (.m a)))) : EvP K E (tVar i) ρ P := fun D H T σ Q s k _ => by
  obtain ⟨h1, h2⟩ := s.move e rfl
  exact ⟨_, h1, k _ _ _ D H q h2⟩
theorem XOk.sub {A : Tm} {P Q : EPost} {σ : St} (x : XOk K E T σ P) (m : ∀ C fs ρ', Q (.ex C fs) ρ' → P (.ex C fs) ρ') : XOk K E (A ++ T) σ Q := fun C fs ρ' D' H' d q s => x C fs ρ' D' H' d (m C fs ρ' q) s.popN
theorem XOk.sub1 {q : V × Ow} {P Q : EPost} {σ : St} (x : XOk K E T σ P) (m : ∀ C fs ρ', Q (.ex C fs) ρ' → P (.ex C fs) ρ') : XOk K E (q :: T) σ Q := XOk.sub (A := [q]) x m
theorem XOk.sub0 {P Q : EPost} {σ : St} (x : XOk K E T σ P) (m : ∀ C fs ρ', Q (.ex C fs) ρ' → P (.ex C fs) ρ') : XOk K E T σ Q := fun C fs ρ' D' H' d q s => x C fs ρ' D' H' d (m C fs ρ' q) s
/-- an operation on data (or owned things read) whose value needs no heap -/
def AOp (K : PySem.W.Frag) (r : R2) (x y z : Dat) : Prop := z.atm = true ∧ ∀ H v w (Q : VK), Den K H v x → Den K H w y → Q z.val H → r v w H Q
theorem ev_op {r : R2} (h : EvP K E ta ρ (bnd (fun x ρ1 => EvP K E tb ρ1 (bnd (fun y ρ2 => x.okR = true ∧ y.okR = true ∧ ∃ z, AOp K r x.dat y.dat z ∧ P (.ok (.d z)) (bk x (bk y ρ2))) P)) P)) : EvP K E (tOp r ta tb) ρ P := by
  intro D H T σ Q s k xo
  refine h D H T σ _ s (fun v x ρ1 D1 H1 q1 s1 => ?_) (xo.sub0 fun _ _ _ z => z)
  refine q1 D1 H1 _ σ _ s1 (fun w y ρ2 D2 H2 q2 s2 => ?_) (xo.sub1 fun _ _ _ z => z)
  obtain ⟨hx, hy, z, hz, q⟩ := q2
  refine hz.2 H2 v w _ ((s2.tm (v, x) (List.mem_cons_of_mem _ List.mem_cons_self)).read s2.ex hx) ((s2.tm (w, y) List.mem_cons_self).read s2.ex hy) ?_
  exact k _ _ _ D2 H2 q ((s2.bk).bk.push (Den.at_v hz.1))
def AUn (K : PySem.W.Frag) (r : V → Hp → VK → Prop) (x z : Dat) : Prop := z.atm = true ∧ ∀ H v (Q : VK), Den K H v x → Q z.val H → r v H Q
theorem ev_un {r : V → Hp → VK → Prop} (h : EvP K E ta ρ (bnd (fun x ρ1 => x.okR = true ∧ ∃ z, AUn K r x.dat z ∧ P (.ok (.d z)) (bk x ρ1)) P)) : EvP K E (tUn r ta) ρ P := by
  intro D H T σ Q s k xo
  refine h D H T σ _ s (fun v x ρ1 D1 H1 q1 s1 => ?_) (xo.sub0 fun _ _ _ z => z)
  obtain ⟨hx, z, hz, q⟩ := q1
  refine hz.2 H1 v _ ((s1.tm (v, x) List.mem_cons_self).read s1.ex hx) ?_
  exact k _ _ _ D1 H1 q (s1.bk.push (Den.at_v hz.1))
theorem aop_I {C : Int → Int → Prop} {g : Int → Int → V} {i j : Int} {z : Dat} (hz : z.atm = true) (e : z.val = g i j) (hc : C i j) : AOp K (rI C g) (.int i) (.int j) z := ⟨hz, fun H v w Q h1 h2 q => by
  cases h1; cases h2; exact ⟨i, j, rfl, rfl, hc, by rw [← e]; exact q⟩⟩
theorem aop_I0 {g : Int → Int → V} {i j : Int} {z : Dat} (hz : z.atm = true) (e : z.val = g i j) : AOp K (rI0 g) (.int i) (.int j) z := ⟨hz, fun H v w Q h1 h2 q => by
  cases h1; cases h2; exact ⟨i, j, rfl, rfl, by rw [← e]; exact q⟩⟩
theorem aop_add {i j : Int} : AOp K rAdd (.int i) (.int j) (.int (i + j)) := ⟨rfl, fun H v w Q h1 h2 q => by cases h1; cases h2; exact ⟨i, j, rfl, rfl, q⟩⟩
theorem aop_sub {i j : Int} : AOp K rSub (.int i) (.int j) (.int (i - j)) := ⟨rfl, fun H v w Q h1 h2 q => by cases h1; cases h2; exact ⟨i, j, rfl, rfl, q⟩⟩
theorem aop_isN {x : Dat} {b : Bool} (e : (match x with | .non => true | _ => false) = b) : AOp K rIsN x .non (.bl b) := ⟨rfl, fun H v w Q h1 h2 q => by
  cases h2
  refine ⟨rfl, ?_⟩
  have e2 : decide (v = V.non) = b := by
    rw [← e]
    cases h1 <;> rfl
  rw [e2]
  exact q⟩
theorem aop_notN {x : Dat} {b : Bool} (e : (match x with | .non => false | _ => true) = b) : AOp K rNotN x .non (.bl b) := ⟨rfl, fun H v w Q h1 h2 q => by
  cases h2
  refine ⟨rfl, ?_⟩
  have e2 : (!decide (v = V.non)) = b := by
    rw [← e]
    cases h1 <;> rfl
  rw [e2]
  exact q⟩
theorem av_nil {Pa : List Ow → Rh → Prop} (q : Pa [] ρ) : AvP K E tNil ρ Pa P := fun D H T σ Q s k _ => k [] [] ρ D H q rfl s
theorem av_cons {Pa : List Ow → Rh → Prop} (h : EvP K E te ρ (bnd (fun o ρ1 => AvP K E tas ρ1 (fun os ρ2 => Pa (o :: os) ρ2) P) P)) : AvP K E (tCons te tas) ρ Pa P := by
  intro D H T σ Q s k xo
  refine h D H T σ _ s (fun v x ρ1 D1 H1 q1 s1 => ?_) (xo.sub0 fun _ _ _ z => z)
  refine q1 D1 H1 _ σ _ s1 (fun vs os ρ2 D2 H2 q2 e2 s2 => ?_) (xo.sub1 fun _ _ _ z => z)
  exact k (v :: vs) (x :: os) ρ2 D2 H2 q2 (by simp [e2]) (s2.perm zip_mid.symm)
theorem ev_tup {ds : List Dat} (h : AvP K E tas ρ (fun os ρ1 => ∃ ds, os = ds.map Ow.d ∧ ds.length ≤ 100000 ∧ P (.ok (.d (.tup ds))) ρ1) P) : EvP K E (tTup tas) ρ P := by
  intro D H T σ Q s k xo
  refine h D H T σ _ s (fun vs os ρ1 D1 H1 q1 e1 s1 => ?_) (xo.sub0 fun _ _ _ z => z)
  obtain ⟨ds, rfl, hl, q⟩ := q1
  have dv : DenAll K D1 vs ds := (tm_all (fun p hp => s1.tm p (List.mem_append_left _ hp)) e1).toAll
  refine ⟨sz_of (by rw [e1, List.length_map]; exact hl), fun p hp => ?_⟩
  refine k _ _ ρ1 _ _ q ((s1.popN.new hp _).push (.tup upd_same (dv.mono (Ex.new (s1.dnone hp)))))
theorem ev_lst (h : AvP K E tas ρ (fun os ρ1 => ∃ ds, os = ds.map Ow.d ∧ ds.length ≤ 100000 ∧ P (.ok (.d (.lst ds))) ρ1) P) : EvP K E (tLst tas) ρ P := by
  intro D H T σ Q s k xo
  refine h D H T σ _ s (fun vs os ρ1 D1 H1 q1 e1 s1 => ?_) (xo.sub0 fun _ _ _ z => z)
  obtain ⟨ds, rfl, hl, q⟩ := q1
  have dv : DenAll K D1 vs ds := (tm_all (fun p hp => s1.tm p (List.mem_append_left _ hp)) e1).toAll
  refine ⟨sz_of (by rw [e1, List.length_map]; exact hl), fun p hp => ?_⟩
  refine k _ _ ρ1 _ _ q ((s1.popN.new hp _).push (.lst upd_same (dv.mono (Ex.new (s1.dnone hp)))))
theorem fpT_zip : ∀ {vs : List V} {os : List Ow}, vs.length = os.length → fpT (vs.zip os) = fps os
  | [], [], _ => rfl
  | v :: vs, o :: os, e => by
    show o.fp ++ fpT (vs.zip os) = o.fp ++ fps os
    rw [fpT_zip (by simpa using e)]
/-- temporaries become the items of a new owned list -/
theorem Sd.own {vs : List V} {os : List Ow} (h : Sd K D H (vs.zip os ++ T) σ ρ) (e : vs.length = os.length) (hp : H p = none) : Sd K D (upd H p (.lst vs)) ((.ref p, .l p os) :: T) σ ρ := by
  have g := h.newO hp (.lst vs)
  have q := fpT_app (vs.zip os) T
  rw [fpT_zip e] at q
  refine ⟨g.ex, fun x hx => ?_, g.sl, ?_, fun a ha => ?_, g.tb⟩
  · rcases List.mem_cons.mp hx with z | z
    · subst z
      exact .l upd_same (tm_all (fun y hy => g.tm y (List.mem_append_left _ hy)) e)
    · exact g.tm x (List.mem_append_right _ z)
  · show (p :: (fps os) ++ fpT T ++ fpR ρ).Nodup
    rw [List.cons_append, List.cons_append, ← q, List.nodup_cons]
    exact ⟨fun z => h.nep hp p z rfl, h.nd⟩
  · have ha' : a ∈ p :: (fps os ++ fpT T ++ fpR ρ) := ha
    rcases List.mem_cons.mp ha' with z | z
    · rw [z]; exact h.dnone hp
    · exact h.out a (by rw [q]; exact z)
theorem ev_lsto (h : AvP K E tas ρ (fun os ρ1 => os.length ≤ 100000 ∧ ∀ a, P (.ok (.l a os)) ρ1) P) : EvP K E (tLst tas) ρ P := by
  intro D H T σ Q s k xo
  refine h D H T σ _ s (fun vs os ρ1 D1 H1 q1 e1 s1 => ?_) (xo.sub0 fun _ _ _ z => z)
  obtain ⟨hl, q⟩ := q1
  refine ⟨sz_of (by rw [e1]; exact hl), fun p hp => ?_⟩
  exact k _ _ ρ1 _ _ (q p) (s1.own e1 hp)
/-- a built-in's call whose value needs no heap -/
def ACb (K : PySem.W.Frag) (r : List V → Hp → VK → Prop) (xs : List Dat) (z : Dat) : Prop := z.atm = true ∧ ∀ H vs (Q : VK), DenAll K H vs xs → Q z.val H → r vs H Q
theorem ev_cb {r : List V → Hp → VK → Prop} (h : AvP K E tas ρ (fun os ρ1 => okRs os = true ∧ ∃ z, ACb K r (dats os) z ∧ P (.ok (.d z)) (bks os ρ1)) P) : EvP K E (tCB r tas) ρ P := by
  intro D H T σ Q s k xo
  refine h D H T σ _ s (fun vs os ρ1 D1 H1 q1 e1 s1 => ?_) (xo.sub0 fun _ _ _ z => z)
  obtain ⟨ho, z, hz, q⟩ := q1
  refine hz.2 H1 vs _ ((tm_all (fun p hp => s1.tm p (List.mem_append_left _ hp)) e1).read s1.ex ho) ?_
  exact k _ _ _ D1 H1 q ((Sd.bks e1 s1).push (Den.at_v hz.1))
/-! tests -/
theorem tv_test (h : EvP K E te ρ (bnd (fun o ρ1 => ∃ b, o = .d (.bl b) ∧ P (.ok (.d (.bl b))) ρ1) P)) : TvP K E (tTest te) ρ P := by
  intro D H T σ Q s k xo
  refine h D H T σ _ s (fun v x ρ1 D1 H1 q1 s1 => ?_) (xo.sub0 fun _ _ _ z => z)
  obtain ⟨b, rfl, q⟩ := q1
  have hv := s1.tm (v, _) List.mem_cons_self
  cases hv with
  | d hv =>
    cases hv
    exact ⟨b, rfl, k b ρ1 D1 H1 q s1.pop⟩
theorem tv_B (h : EvP K E te ρ (bnd (fun o ρ1 => ∃ b, o = .d (.bl b) ∧ P (.ok (.d (.bl b))) ρ1) P)) : TvP K E (tB te) ρ P := tv_test h
theorem tv_and (h : TvP K E tt ρ (bnd (fun o ρ1 => ∃ b, o = .d (.bl b) ∧ (b = true → TvP K E tu ρ1 P) ∧ (b = false → P (.ok (.d (.bl false))) ρ1)) P)) : TvP K E (tAnd tt tu) ρ P := by
  intro D H T σ Q s k xo
  refine h D H T σ _ s (fun b ρ1 D1 H1 q1 s1 => ?_) (xo.sub0 fun _ _ _ z => z)
  obtain ⟨b', e, h1, h2⟩ := q1
  cases e
  cases b with
  | true => exact h1 rfl D1 H1 T σ Q s1 k xo
  | false => exact k false ρ1 D1 H1 (h2 rfl) s1
theorem tv_or (h : TvP K E tt ρ (bnd (fun o ρ1 => ∃ b, o = .d (.bl b) ∧ (b = true → P (.ok (.d (.bl true))) ρ1) ∧ (b = false → TvP K E tu ρ1 P)) P)) : TvP K E (tOr tt tu) ρ P := by
  intro D H T σ Q s k xo
  refine h D H T σ _ s (fun b ρ1 D1 H1 q1 s1 => ?_) (xo.sub0 fun _ _ _ z => z)
  obtain ⟨b', e, h1, h2⟩ := q1
  cases e
  cases b with
  | true => exact k true ρ1 D1 H1 (h1 rfl) s1
  | false => exact h2 rfl D1 H1 T σ Q s1 k xo
theorem tv_not (h : TvP K E tt ρ (bnd (fun o ρ1 => ∃ b, o = .d (.bl b) ∧ P (.ok (.d (.bl (!b)))) ρ1) P)) : TvP K E (tNot tt) ρ P := by
  intro D H T σ Q s k xo
  refine h D H T σ _ s (fun b ρ1 D1 H1 q1 s1 => ?_) (xo.sub0 fun _ _ _ z => z)
  obtain ⟨b', e, h1⟩ := q1
  cases e
  exact k _ ρ1 D1 H1 h1 s1
theorem ev_andV (h : EvP K E ta ρ (bnd (fun o ρ1 => ∃ b, o = .d (.bl b) ∧ (b = true → EvP K E tb ρ1 P) ∧ (b = false → P (.ok (.d (.bl false))) ρ1)) P)) : EvP K E (tAndV ta tb) ρ P := by
  intro D H T σ Q s k xo
  refine h D H T σ _ s (fun v x ρ1 D1 H1 q1 s1 => ?_) (xo.sub0 fun _ _ _ z => z)
  obtain ⟨b, rfl, h1, h2⟩ := q1
  have hv := s1.tm (v, _) List.mem_cons_self
  cases hv with
  | d hv =>
    cases hv
    refine ⟨b, rfl, ?_⟩
    cases b with
    | true => exact h1 rfl D1 H1 T σ Q s1.pop k xo
    | false => exact k _ _ ρ1 D1 H1 (h2 rfl) s1
theorem ev_orV (h : EvP K E ta ρ (bnd (fun o ρ1 => ∃ b, o = .d (.bl b) ∧ (b = true → P (.ok (.d (.bl true))) ρ1) ∧ (b = false → EvP K E tb ρ1 P)) P)) : EvP K E (tOrV ta tb) ρ P := by
  intro D H T σ Q s k xo
  refine h D H T σ _ s (fun v x ρ1 D1 H1 q1 s1 => ?_) (xo.sub0 fun _ _ _ z => z)
  obtain ⟨b, rfl, h1, h2⟩ := q1
  have hv := s1.tm (v, _) List.mem_cons_self
  cases hv with
  | d hv =>
    cases hv
    refine ⟨b, rfl, ?_⟩
    cases b with
    | true => exact k _ _ ρ1 D1 H1 (h1 rfl) s1
    | false => exact h2 rfl D1 H1 T σ Q s1.pop k xo
theorem ev_notV (h : EvP K E ta ρ (bnd (fun o ρ1 => ∃ b, o = .d (.bl b) ∧ P (.ok (.d (.bl (!b)))) ρ1) P)) : EvP K E (tNotV ta) ρ P := by
  intro D H T σ Q s k xo
  refine h D H T σ _ s (fun v x ρ1 D1 H1 q1 s1 => ?_) (xo.sub0 fun _ _ _ z => z)
  obtain ⟨b, rfl, h1⟩ := q1
  have hv := s1.tm (v, _) List.mem_cons_self
  cases hv with
  | d hv =>
    cases hv
    exact ⟨b, rfl, k _ _ ρ1 D1 H1 h1 (s1.pop.push (.bl _))⟩
theorem ev_if (h : TvP K E tt ρ (bnd (fun o ρ1 => ∃ b, o = .d (.bl b) ∧ (b = true → EvP K E ta ρ1 P) ∧ (b = false → EvP K E tb ρ1 P)) P)) : EvP K E (tIf tt ta tb) ρ P := by
  intro D H T σ Q s k xo
  refine h D H T σ _ s (fun b ρ1 D1 H1 q1 s1 => ?_) (xo.sub0 fun _ _ _ z => z)
  obtain ⟨b', e, h1, h2⟩ := q1
  cases e
  cases b with
  | true => exact h1 rfl D1 H1 T σ Q s1 k xo
  | false => exact h2 rfl D1 H1 T σ Q s1 k xo
/-! ### statements -/
theorem XOk.ofWd {En : Ends} (w : Wd K E T En S) (m : ∀ C fs ρ', P (.ex C fs) ρ' → S (.xc C fs ρ')) : XOk K E T σ P := fun C fs ρ' D' H' d q s x => w.xc C fs ρ' D' H' σ d (m C fs ρ' q) s x
theorem sv_seq (h : SvP K E ts ρ (seqS (fun ρ1 => SvP K E tw ρ1 S) S)) : SvP K E (tSeq ts tw) ρ S := fun D H T σ En s w => h D H T σ _ s
  ⟨fun ρ' D' H' σ' q s' => q D' H' T σ' En s' w, fun v o ρ' D' H' σ' q s' => w.rt v o ρ' D' H' σ' q s', fun ρ' D' H' σ' q s' => w.bk ρ' D' H' σ' q s', fun ρ' D' H' σ' q s' => w.ct ρ' D' H' σ' q s', fun C fs ρ' D' H' σ' d q s' x => w.xc C fs ρ' D' H' σ' d q s' x⟩
theorem sv_next (h : S (.nx ρ)) : SvP K E tNext ρ S := fun D H T σ En s w => w.nx ρ D H σ h s
theorem sv_brk (h : S (.bk ρ)) : SvP K E tBreak ρ S := fun D H T σ En s w => w.bk ρ D H σ h s
theorem sv_cont (h : S (.ct ρ)) : SvP K E tCont ρ S := fun D H T σ En s w => w.ct ρ D H σ h s
theorem sv_asg (h : EvP K E te ρ (bndS (fun o ρ1 => i < ρ1.length ∧ S (.nx (ρ1.set i (some o)))) S)) : SvP K E (tAsg te (gName i)) ρ S := by
  intro D H T σ En s w
  refine h D H T σ _ s (fun v x ρ1 D1 H1 q1 s1 => ?_) (.ofWd w fun _ _ _ z => z)
  exact w.nx _ D1 H1 _ q1.2 (s1.toSlot i (by rw [s1.len]; exact q1.1))
theorem sv_drop (h : EvP K E te ρ (bndS (fun o ρ1 => S (.nx (bk o ρ1))) S)) : SvP K E (tDrop te) ρ S := by
  intro D H T σ En s w
  refine h D H T σ _ s (fun v x ρ1 D1 H1 q1 s1 => ?_) (.ofWd w fun _ _ _ z => z)
  exact w.nx _ D1 H1 σ q1 s1.bk
theorem sv_ret (h : EvP K E te ρ (bndS (fun o ρ1 => S (.rt o ρ1)) S)) : SvP K E (tRet te) ρ S := by
  intro D H T σ En s w
  refine h D H T σ _ s (fun v x ρ1 D1 H1 q1 s1 => ?_) (.ofWd w fun _ _ _ z => z)
  exact w.rt _ _ _ D1 H1 σ q1 s1
theorem sv_retN (h : S (.rt (.d .non) ρ)) : SvP K E tRetN ρ S := fun D H T σ En s w => w.rt _ _ _ D H σ h (s.push .non)
theorem sv_if (h : TvP K E tt ρ (bndS (fun o ρ1 => ∃ b, o = .d (.bl b) ∧ (b = true → SvP K E ts ρ1 S) ∧ (b = false → SvP K E tw ρ1 S)) S)) : SvP K E (tIfS tt ts tw) ρ S := by
  intro D H T σ En s w
  refine h D H T σ _ s (fun b ρ1 D1 H1 q1 s1 => ?_) (.ofWd w fun _ _ _ z => z)
  obtain ⟨b', e, h1, h2⟩ := q1
  cases e
  cases b with
  | true => exact h1 rfl D1 H1 T σ En s1 w
  | false => exact h2 rfl D1 H1 T σ En s1 w
theorem sv_wk {ρ' : Rh} (w : Wk ρ ρ') (h : SvP K E ts ρ' S) : SvP K E ts ρ S := fun D H T σ En s z => h D H T σ En (s.wk w) z
end
end DL

/-! ### D. loops, comprehensions, calls -/
namespace DL
open PySem L2 Evl
section
variable {K : PySem.W.Frag} [HasTabs K] {E : XK} {te ta tb : TE} {tt tu : TT} {tas : TA} {ts tw : TS} {ρ : Rh} {P P' : EPost} {S : SPost} {D D' H H' : Hp} {T : Tm} {σ : St} {v : V} {o : Ow} {i : Nat} {a p : Addr}
/-! walks over data -/
def Yd (K : PySem.W.Frag) (D H : Hp) (x : V) (H' : Hp) (d : Dat) : Prop :=
  (H' = H ∧ Den K D x d) ∨ ∃ (t : Addr) (vs : List V) (es : List Dat), x = .ref t ∧ H t = none ∧ H' = upd H t (.tup vs) ∧ d = .tup es ∧ DenAll K D vs es
def Wkd (K : PySem.W.Frag) (J : It) (A : Tm) (ds : List Dat) : Prop := ∀ D H, Ex D H → (∀ p ∈ A, DenO K D H p.1 p.2) →
  (∀ i, i < ds.length → J.go i H) ∧ J.stop ds.length H ∧ ∀ i x H', i < ds.length → J.yld i H x H' → ∃ d, ds[i]? = some d ∧ Yd K D H x H' d
theorem Sd.yld {d : Dat} {x : V} (h : Sd K D H T σ ρ) (y : Yd K D H x H' d) : ∃ D', Sd K D' H' ((x, .d d) :: T) σ ρ := by
  rcases y with ⟨rfl, q⟩ | ⟨t, vs, es, rfl, ht, rfl, rfl, q⟩
  · exact ⟨D, h.push q⟩
  · exact ⟨_, (h.new ht _).push (.tup upd_same (q.mono (Ex.new (h.dnone ht))))⟩
def IvP (K : PySem.W.Frag) [HasTabs K] (E : XK) (wi : TI) (ρ : Rh) (P : List Dat → List Ow → Rh → Prop) (X : EPost) : Prop :=
  ∀ D H T σ (R : It → Hp → Prop), Sd K D H T σ ρ → (∀ J A ds ρ' D' H', P ds (A.map Prod.snd) ρ' → Wkd K J A ds → Sd K D' H' (A ++ T) σ ρ' → R J H') → XOk K E T σ X → wi σ H R
theorem iv_list {tl : TE} {Pi : List Dat → List Ow → Rh → Prop} (h : EvP K E tl ρ (bnd (fun o ρ1 => ∃ ds, o.okR = true ∧ o.dat = .lst ds ∧ (∀ x y, o = .t x y → False) ∧ (match o with | .l _ xs => xs = ds.map Ow.d | _ => True) ∧ Pi ds [o] ρ1) P)) : IvP K E (iList K tl) ρ Pi P := by
  intro D H T σ R s k xo
  refine h D H T σ _ s (fun v x ρ1 D1 H1 q1 s1 => ?_) (xo.sub0 fun _ _ _ z => z)
  obtain ⟨ds, ho, hd, _, hm, q⟩ := q1
  -- the list as it is read in any later state that still bears the temporary
  have rd : ∀ D2 H2, Ex D2 H2 → DenO K D2 H2 v x → ∃ a vs, v = .ref a ∧ SqL K H2 a vs ∧ DenAll K D2 vs ds := by
    intro D2 H2 e2 g
    cases g with
    | d g =>
      have hd' : _ = Dat.lst ds := hd
      subst hd'
      cases g with
      | lst g1 g2 => exact ⟨_, _, rfl, sq_of (e2 _ _ g1), g2⟩
    | m a => cases ho
    | l g1 g2 =>
      have hm' : _ = ds.map Ow.d := hm
      subst hm'
      exact ⟨_, _, rfl, sq_of g1, g2.toAll⟩
    | t g1 g2 => cases ho
    | z g1 g2 => cases ho
    | o g1 g2 => cases hd
    | q g1 g2 => cases ho
  obtain ⟨a, vs, rfl, hS, hA⟩ := rd D1 H1 s1.ex (s1.tm (v, x) List.mem_cons_self)
  refine ⟨a, rfl, ⟨vs, hS⟩, k (Itl K a) [(.ref a, x)] ds ρ1 D1 H1 q (fun D2 H2 e2 g => ?_) s1⟩
  obtain ⟨b, ws, eb, hS2, hA2⟩ := rd D2 H2 e2 (g _ List.mem_cons_self)
  cases eb
  have hl := hA2.length
  refine ⟨fun i hi => ⟨ws, ws[i]'(by omega), hS2, by simp [show i < ws.length by omega]⟩, ⟨ws, hS2, by omega⟩, fun i y H' hi hy => ?_⟩
  obtain ⟨rfl, hy⟩ := hy
  obtain ⟨d, h1, h2⟩ := hA2.getv (hy ws hS2)
  exact ⟨d, h1, .inl ⟨rfl, h2⟩⟩
theorem iv_tup {tl : TE} {Pi : List Dat → List Ow → Rh → Prop} (h : EvP K E tl ρ (bnd (fun o ρ1 => ∃ ds, o = .d (.tup ds) ∧ Pi ds [o] ρ1) P)) : IvP K E (iTup K tl) ρ Pi P := by
  intro D H T σ R s k xo
  refine h D H T σ _ s (fun v x ρ1 D1 H1 q1 s1 => ?_) (xo.sub0 fun _ _ _ z => z)
  obtain ⟨ds, rfl, q⟩ := q1
  have rd : ∀ D2 H2, Ex D2 H2 → DenO K D2 H2 v (.d (.tup ds)) → ∃ a vs, v = .ref a ∧ SqT K H2 a vs ∧ DenAll K D2 vs ds := by
    intro D2 H2 e2 g
    cases g with
    | d g =>
      cases g with
      | tup g1 g2 => exact ⟨_, _, rfl, st_of (e2 _ _ g1), g2⟩
  obtain ⟨a, vs, rfl, hS, hA⟩ := rd D1 H1 s1.ex (s1.tm (v, _) List.mem_cons_self)
  refine ⟨a, rfl, ⟨vs, hS⟩, k (Itt K a) [(.ref a, _)] ds ρ1 D1 H1 q (fun D2 H2 e2 g => ?_) s1⟩
  obtain ⟨b, ws, eb, hS2, hA2⟩ := rd D2 H2 e2 (g _ List.mem_cons_self)
  cases eb
  have hl := hA2.length
  refine ⟨fun i hi => ⟨ws, ws[i]'(by omega), hS2, by simp [show i < ws.length by omega]⟩, ⟨ws, hS2, by omega⟩, fun i y H' hi hy => ?_⟩
  obtain ⟨rfl, hy⟩ := hy
  obtain ⟨d, h1, h2⟩ := hA2.getv (hy ws hS2)
  exact ⟨d, h1, .inl ⟨rfl, h2⟩⟩
def rangeD (lo : Int) (n : Nat) : List Dat := (List.range n).map fun (i : Nat) => Dat.int (lo + (i : Int))
theorem rangeD_len (lo : Int) (n : Nat) : (rangeD lo n).length = n := by unfold rangeD; simp
theorem rangeD_get {lo : Int} {n i : Nat} (h : i < n) : (rangeD lo n)[i]? = some (.int (lo + (i : Int))) := by unfold rangeD; simp [h]
theorem wkd_range {lo : Int} {n : Nat} : Wkd K (Itr lo n) [] (rangeD lo n) := fun D H e g => by
  rw [rangeD_len]
  refine ⟨fun i hi => hi, Nat.le_refl _, fun i x H' hi y => ?_⟩
  obtain ⟨rfl, rfl⟩ := y
  exact ⟨_, rangeD_get hi, .inl ⟨rfl, .int _⟩⟩
theorem iv_rng1 {Pi : List Dat → List Ow → Rh → Prop} (h : AvP K E tas ρ (fun os ρ1 => ∃ n : Int, os = [.d (.int n)] ∧ -(2 ^ 62) ≤ n ∧ n < 2 ^ 62 ∧ Pi (rangeD 0 n.toNat) [] ρ1) P) : IvP K E (iRng1 tas) ρ Pi P := by
  intro D H T σ R s k xo
  refine h D H T σ _ s (fun vs os ρ1 D1 H1 q1 e1 s1 => ?_) (xo.sub0 fun _ _ _ z => z)
  obtain ⟨n, rfl, h1, h2, q⟩ := q1
  match vs, e1 with
  | [v], _ =>
    have hv := s1.tm (v, _) List.mem_cons_self
    cases hv with
    | d hv =>
      cases hv
      exact ⟨n, rfl, h1, h2, k _ [] _ ρ1 D1 H1 q wkd_range s1.pop⟩
theorem iv_rng2 {Pi : List Dat → List Ow → Rh → Prop} (h : AvP K E tas ρ (fun os ρ1 => ∃ m n : Int, os = [.d (.int m), .d (.int n)] ∧ (-(2 ^ 62) ≤ m ∧ m < 2 ^ 62 ∧ -(2 ^ 62) ≤ n ∧ n < 2 ^ 62) ∧ Pi (rangeD m (n - m).toNat) [] ρ1) P) : IvP K E (iRng2 tas) ρ Pi P := by
  intro D H T σ R s k xo
  refine h D H T σ _ s (fun vs os ρ1 D1 H1 q1 e1 s1 => ?_) (xo.sub0 fun _ _ _ z => z)
  obtain ⟨m, n, rfl, hb, q⟩ := q1
  match vs, e1 with
  | [v, w], _ =>
    have hv := s1.tm (v, _) List.mem_cons_self
    have hw := s1.tm (w, _) (List.mem_cons_of_mem _ List.mem_cons_self)
    cases hv with
    | d hv =>
      cases hv
      cases hw with
      | d hw =>
        cases hw
        exact ⟨m, n, rfl, hb, k _ [] _ ρ1 D1 H1 q wkd_range s1.pop.pop⟩

/-! targets -/
theorem wipe_set {j : Nat} {x : Option V} : ∀ {vs : List Nat} {σ : St}, j ∈ vs → wipe (σ.set j x) vs = wipe σ vs := by
  have key : ∀ (vs : List Nat) (σ : St) (x : Option V), wipe (σ.set j x) vs = (if j ∈ vs then wipe σ vs else (wipe σ vs).set j x) := by
    intro vs
    induction vs with
    | nil => intro σ x; rfl
    | cons w vs ih =>
      intro σ x
      show (wipe (σ.set j x) vs).set w none = _
      rw [ih]
      by_cases h1 : j ∈ vs
      · rw [if_pos h1, if_pos (List.mem_cons_of_mem _ h1)]
        rfl
      · rw [if_neg h1]
        by_cases h2 : j = w
        · subst h2
          rw [if_pos List.mem_cons_self, List.set_set]
          rfl
        · rw [if_neg (by simp [h1, h2]), List.set_comm _ _ h2]
          rfl
  intro vs σ h
  rw [key, if_pos h]
theorem wipe_wipe (vs : List Nat) (σ : St) : wipe (wipe σ vs) vs = wipe σ vs := by
  have key : ∀ (ws : List Nat) (σ : St), (∀ w ∈ ws, w ∈ vs) → wipe (wipe σ ws) vs = wipe σ vs := by
    intro ws
    induction ws with
    | nil => intro σ _; rfl
    | cons w ws ih =>
      intro σ h
      show wipe ((wipe σ ws).set w none) vs = _
      rw [wipe_set (h w List.mem_cons_self), ih _ fun y hy => h y (List.mem_cons_of_mem _ hy)]
  exact key vs σ fun _ h => h
def GvP (K : PySem.W.Frag) [HasTabs K] (g : TG) (ws : List Nat) (ρ : Rh) (d : Dat) (P : Rh → Prop) : Prop :=
  ∀ D H T σ x (Q : St → Hp → Prop), Sd K D H ((x, .d d) :: T) σ ρ → (∀ σ' ρ' D' H', P ρ' → Sd K D' H' T σ' ρ' → (∀ vs : List Nat, (∀ i ∈ ws, i ∈ vs) → wipe σ' vs = wipe σ vs) → Q σ' H') → g x σ H Q
def GsP (K : PySem.W.Frag) [HasTabs K] (g : TGs) (ws : List Nat) (ρ : Rh) (ds : List Dat) (P : Rh → Prop) : Prop :=
  ∀ D H T σ xs (Q : St → Hp → Prop), Sd K D H T σ ρ → DenAll K D xs ds → xs.length = ds.length → (∀ σ' ρ' D' H', P ρ' → Sd K D' H' T σ' ρ' → (∀ vs : List Nat, (∀ i ∈ ws, i ∈ vs) → wipe σ' vs = wipe σ vs) → Q σ' H') → g xs σ H Q
theorem gv_name {d : Dat} {Pr : Rh → Prop} (hi : i < ρ.length) (q : Pr (ρ.set i (some (.d d)))) : GvP K (gName i) [i] ρ d Pr := fun D H T σ x Q s k =>
  k _ _ D H q (s.toSlot i (by rw [s.len]; exact hi)) fun vs h => wipe_set (h i List.mem_cons_self)
theorem gs_nil {Pr : Rh → Prop} (q : Pr ρ) : GsP K gNil [] ρ [] Pr := fun D H T σ xs Q s h e k => by
  cases h
  exact ⟨rfl, k _ _ D H q s fun _ _ => rfl⟩
theorem gs_cons {g : TG} {gs : TGs} {ws us : List Nat} {d : Dat} {ds : List Dat} {Pr : Rh → Prop} (h : GvP K g ws ρ d (fun ρ1 => GsP K gs us ρ1 ds Pr)) : GsP K (gCons g gs) (ws ++ us) ρ (d :: ds) Pr := fun D H T σ xs Q s h1 e k => by
  cases h1 with
  | cons r t =>
    rename_i v vs
    refine ⟨v, vs, rfl, ?_⟩
    -- the rest of the values as temporaries
    have sT : ∀ (vs : List V) (ds : List Dat), DenAll K D vs ds → Sd K D H (vs.zip (ds.map Ow.d) ++ T) σ ρ := by
      intro vs
      induction vs with
      | nil => intro ds q; cases q; exact s
      | cons v vs ih => intro ds q; cases q with | cons r t => exact (ih _ t).push r
    refine h D H _ σ v _ ((sT vs ds t).push r) fun σ' ρ' D' H' q s' w1 => ?_
    have e2 : vs.length = ds.length := by simpa using e
    have t' : DenAll K D' vs ds := (tm_all (fun p hp => s'.tm p (List.mem_append_left _ hp)) (by rw [e2, List.length_map])).toAll
    exact q D' H' T σ' vs Q s'.popN t' e2 fun σ2 ρ2 D2 H2 q2 s2 w2 => k σ2 ρ2 D2 H2 q2 s2 fun vs hv =>
      (w2 vs fun i hi => hv i (List.mem_append_right _ hi)).trans (w1 vs fun i hi => hv i (List.mem_append_left _ hi))
theorem gv_tup {n : Nat} {gs : TGs} {ws : List Nat} {ds : List Dat} {Pr : Rh → Prop} (e : ds.length = n) (h : GsP K gs ws ρ ds Pr) : GvP K (gTup K n gs) ws ρ (.tup ds) Pr := fun D H T σ x Q s k => by
  have hv := s.tm (x, _) List.mem_cons_self
  cases hv with
  | d hv =>
    cases hv with
    | tup g1 g2 =>
      refine ⟨_, _, rfl, st_of (s.ex _ _ g1), by rw [g2.length]; exact e, ?_⟩
      exact h D H T σ _ Q s.pop g2 g2.length k
/-- x = e, any target -/
theorem sv_asgG {g : TG} {ws : List Nat} (h : EvP K E te ρ (bndS (fun o ρ1 => ∃ d, o = .d d ∧ GvP K g ws ρ1 d (fun ρ2 => S (.nx ρ2))) S)) : SvP K E (tAsg te g) ρ S := by
  intro D H T σ En s w
  refine h D H T σ _ s (fun v x ρ1 D1 H1 q1 s1 => ?_) (.ofWd w fun _ _ _ z => z)
  obtain ⟨d, rfl, q⟩ := q1
  exact q D1 H1 T σ v _ s1 fun σ' ρ' D' H' q' s' _ => w.nx _ D' H' σ' q' s'

/-! ### for -/
def onT (k : Rh → Prop) (S : SPost) : SPost := fun out => match out with
  | .nx ρ => ∃ ρ', Wk ρ ρ' ∧ k ρ'
  | .ct ρ => ∃ ρ', Wk ρ ρ' ∧ k ρ'
  | .bk ρ => S (.nx ρ)
  | .rt o ρ => S (.rt o ρ)
  | .xc C fs ρ => S (.xc C fs ρ)
def LoopP (K : PySem.W.Frag) [HasTabs K] (E : XK) (g : TG) (ws : List Nat) (tb : TS) : List Dat → Rh → SPost → Prop
  | [], ρ, S => S (.nx ρ)
  | d :: ds, ρ, S => GvP K g ws ρ d (fun ρ1 => SvP K E tb ρ1 (onT (fun ρ2 => LoopP K E g ws tb ds ρ2 S) S))
/-- the walked thing goes back into its slot -/
def resS (os : List Ow) (S : SPost) : SPost := fun out => match out with
  | .nx ρ => S (.nx (bks os ρ))
  | .rt o ρ => S (.rt o (bks os ρ))
  | .bk ρ => S (.bk (bks os ρ))
  | .ct ρ => S (.ct (bks os ρ))
  | .xc C fs ρ => S (.xc C fs (bks os ρ))
theorem fst_snd (A : Tm) : A = (A.map Prod.fst).zip (A.map Prod.snd) := by
  induction A with
  | nil => rfl
  | cons x A ih =>
    show x :: A = (x.1, x.2) :: ((A.map Prod.fst).zip (A.map Prod.snd))
    rw [← ih]
theorem Sd.bksA {A : Tm} (h : Sd K D H (A ++ T) σ ρ) : Sd K D H T σ (DL.bks (A.map Prod.snd) ρ) := by
  rw [fst_snd A] at h
  exact Sd.bks (by simp) h
theorem Sd.bksA2 {A : Tm} {q : V × Ow} (h : Sd K D H (q :: (A ++ T)) σ ρ) : Sd K D H (q :: T) σ (DL.bks (A.map Prod.snd) ρ) := Sd.bksA (T := q :: T) (h.perm List.perm_middle.symm)
theorem sv_for {wi : TI} {g : TG} {ws : List Nat} {tb : TS} (h : IvP K E wi ρ (fun ds os ρ1 => LoopP K E g ws tb ds ρ1 (resS os S)) (bndS (fun _ _ => True) S)) : SvP K E (tFor wi g tb) ρ S := by
  intro D H T σ En s w
  refine h D H T σ _ s (fun J A ds ρ1 D1 H1 q1 wk s1 => ?_) (.ofWd w fun _ _ _ z => z)
  refine ⟨fun i m σ' H' => i + m = ds.length ∧ ∃ D' ρ', Sd K D' H' (A ++ T) σ' ρ' ∧ LoopP K E g ws tb (ds.drop i) ρ' (resS (A.map Prod.snd) S), ⟨ds.length, by omega, D1, ρ1, s1, q1⟩, ?_⟩
  rintro i m σ' H' ⟨hm, D', ρ', s', q'⟩
  obtain ⟨wg, wst, wy⟩ := wk D' H' s'.ex fun p hp => s'.tm p (List.mem_append_left _ hp)
  by_cases hi : i < ds.length
  · have e : ds.drop i = ds[i] :: ds.drop (i + 1) := List.drop_eq_getElem_cons hi
    rw [e] at q'
    refine .inr ⟨wg i hi, fun σ2 H2 => ∃ D2 ρ2, Sd K D2 H2 (A ++ T) σ2 ρ2 ∧ LoopP K E g ws tb (ds.drop (i + 1)) ρ2 (resS (A.map Prod.snd) S), fun σ2 H2 ⟨D2, ρ2, z1, z2⟩ => ⟨m - 1, by omega, by omega, D2, ρ2, z1, z2⟩, fun x H2 y => ?_⟩
    obtain ⟨d, hd, yd⟩ := wy i x H2 hi y
    rw [List.getElem?_eq_getElem hi] at hd
    have hd' : ds[i] = d := Option.some.inj hd
    rw [hd'] at q'
    obtain ⟨D2, s2⟩ := s'.yld yd
    refine q' D2 H2 (A ++ T) σ' x _ s2 fun σ3 ρ3 D3 H3 q3 s3 _ => ?_
    refine q3 D3 H3 (A ++ T) σ3 _ s3 ⟨?_, ?_, ?_, ?_, ?_⟩
    · rintro ρ4 D4 H4 σ4 ⟨ρ5, w5, q5⟩ s4
      exact ⟨D4, ρ5, s4.wk w5, q5⟩
    · intro v o ρ4 D4 H4 σ4 q4 s4
      exact w.rt v o _ D4 H4 σ4 q4 (Sd.bksA2 s4)
    · intro ρ4 D4 H4 σ4 q4 s4
      exact w.nx _ D4 H4 σ4 q4 (Sd.bksA s4)
    · rintro ρ4 D4 H4 σ4 ⟨ρ5, w5, q5⟩ s4
      exact ⟨D4, ρ5, s4.wk w5, q5⟩
    · intro C fs ρ4 D4 H4 σ4 d4 q4 s4 x4
      exact w.xc C fs _ D4 H4 σ4 d4 q4 (Sd.bksA s4) x4
  · have e : i = ds.length := by omega
    subst e
    rw [List.drop_length] at q'
    exact .inl ⟨wst, w.nx _ D' H' σ' q' (Sd.bksA s')⟩
/-- a loop by its invariant: I i ahead of turn i -/
theorem loop_inv {g : TG} {ws : List Nat} {tb : TS} {ds : List Dat} (I : Nat → Rh → Prop) (h0 : I 0 ρ)
    (hs : ∀ i d ρ', ds[i]? = some d → I i ρ' → GvP K g ws ρ' d (fun ρ1 => SvP K E tb ρ1 (onT (I (i + 1)) S))) (hd : ∀ ρ', I ds.length ρ' → S (.nx ρ')) : LoopP K E g ws tb ds ρ S := by
  have key : ∀ (es : List Dat) (i : Nat) (ρ : Rh), ds.drop i = es → i ≤ ds.length → I i ρ → LoopP K E g ws tb es ρ S := by
    intro es
    induction es with
    | nil =>
      intro i ρ e hl q
      have : i = ds.length := by
        have := congrArg List.length e
        simp at this
        omega
      subst this
      exact hd _ q
    | cons d es ih =>
      intro i ρ e hl q
      have hi : i < ds.length := by
        have := congrArg List.length e
        simp at this
        omega
      have e2 : ds.drop i = ds[i] :: ds.drop (i + 1) := List.drop_eq_getElem_cons hi
      rw [e2] at e
      obtain ⟨e3, e4⟩ := List.cons.inj e
      refine fun D H T σ x Q s k => hs i d ρ (by rw [List.getElem?_eq_getElem hi, e3]) q D H T σ x Q s fun σ' ρ' D' H' q' => k σ' ρ' D' H' ?_
      refine SvP.mono q' fun out z => ?_
      cases out with
      | nx ρ1 => obtain ⟨ρ2, w, z⟩ := z; exact ⟨ρ2, w, ih (i + 1) ρ2 e4 (by omega) z⟩
      | ct ρ1 => obtain ⟨ρ2, w, z⟩ := z; exact ⟨ρ2, w, ih (i + 1) ρ2 e4 (by omega) z⟩
      | bk ρ1 => exact z
      | rt o ρ1 => exact z
      | xc C fs ρ1 => exact z
  exact key ds 0 ρ rfl (Nat.zero_le _) h0
/-! ### while -/
def WhP (K : PySem.W.Frag) [HasTabs K] (E : XK) (c : TT) (tb : TS) : Nat → Rh → SPost → Prop
  | 0, _, _ => False
  | n + 1, ρ, S => TvP K E c ρ (bndS (fun o ρ1 => ∃ b, o = .d (.bl b) ∧ (b = true → SvP K E tb ρ1 (onT (fun ρ2 => WhP K E c tb n ρ2 S) S)) ∧ (b = false → S (.nx ρ1))) S)
theorem sv_while {c : TT} {tb : TS} (n : Nat) (h : WhP K E c tb n ρ S) : SvP K E (tWhile c tb) ρ S := by
  intro D H T σ En s w
  refine ⟨fun m σ' H' => ∃ D' ρ', Sd K D' H' T σ' ρ' ∧ WhP K E c tb m ρ' S, ⟨n, D, ρ, s, h⟩, ?_⟩
  rintro m σ' H' ⟨D', ρ', s', q'⟩
  cases m with
  | zero => exact q'.elim
  | succ m =>
    refine q' D' H' T σ' _ s' (fun b ρ1 D1 H1 q1 s1 => ?_) (.ofWd w fun _ _ _ z => z)
    obtain ⟨b', e, h1, h2⟩ := q1
    cases e
    cases b with
    | false => exact w.nx _ D1 H1 σ' (h2 rfl) s1
    | true =>
      refine ⟨fun σ2 H2 => ∃ D2 ρ2, Sd K D2 H2 T σ2 ρ2 ∧ WhP K E c tb m ρ2 S, fun σ2 H2 z => ⟨m, Nat.lt_succ_self _, z⟩, ?_⟩
      refine h1 rfl D1 H1 T σ' _ s1 ⟨?_, ?_, ?_, ?_, ?_⟩
      · rintro ρ4 D4 H4 σ4 ⟨ρ5, w5, q5⟩ s4
        exact ⟨D4, ρ5, s4.wk w5, q5⟩
      · intro v o ρ4 D4 H4 σ4 q4 s4
        exact w.rt v o _ D4 H4 σ4 q4 s4
      · intro ρ4 D4 H4 σ4 q4 s4
        exact w.nx _ D4 H4 σ4 q4 s4
      · rintro ρ4 D4 H4 σ4 ⟨ρ5, w5, q5⟩ s4
        exact ⟨D4, ρ5, s4.wk w5, q5⟩
      · intro C fs ρ4 D4 H4 σ4 d4 q4 s4 x4
        exact w.xc C fs _ D4 H4 σ4 d4 q4 s4 x4
/-! ### comprehensions -/
def wp (ρ : Rh) : List Nat → Rh
  | [] => ρ
  | w :: vs => (wp ρ vs).set w none
theorem Sd.wipe (h : Sd K D H T σ ρ) (vs : List Nat) : Sd K D H T (wipe σ vs) (wp ρ vs) := by
  induction vs with
  | nil => exact h
  | cons w vs ih =>
    have g := ih.forget w
    exact ⟨g.ex, g.tm, ih.sl.wipe1 w, g.nd, g.out, g.tb⟩
theorem Slots.unwipe : ∀ {vs : List Nat} {σ : St} {ρ : Rh}, Slots K D H (L2.wipe σ vs) (wp ρ vs) → Slots K D H σ (wp ρ vs) := by
  have one : ∀ (w : Nat) (σ : St) (ρ : Rh), Slots K D H (σ.set w Option.none) (ρ.set w Option.none) → Slots K D H σ (ρ.set w Option.none) := by
    intro w
    induction w with
    | zero =>
      intro σ ρ h
      cases σ with
      | nil => exact h
      | cons x σ =>
        cases ρ with
        | nil => have := h.length; simp at this
        | cons y ρ =>
          cases h with
          | skip r => exact .skip r
    | succ w ih =>
      intro σ ρ h
      cases σ with
      | nil => exact h
      | cons x σ =>
        cases ρ with
        | nil => have := h.length; simp at this
        | cons y ρ =>
          cases h with
          | skip r => exact .skip (ih σ ρ r)
          | cons q r => exact .cons q (ih σ ρ r)
  intro vs
  induction vs with
  | nil => intro σ ρ h; exact h
  | cons w vs ih =>
    intro σ ρ h
    have h1 : Slots K D H (L2.wipe σ vs) ((wp ρ vs).set w Option.none) := one w (L2.wipe σ vs) (wp ρ vs) h
    -- wipe of the rest, the slot w none already
    have comm : ∀ (us : List Nat) (ρ : Rh), (wp ρ us).set w Option.none = wp (ρ.set w Option.none) us := by
      intro us
      induction us with
      | nil => intro ρ; rfl
      | cons u us ihu =>
        intro ρ
        show ((wp ρ us).set u Option.none).set w Option.none = (wp (ρ.set w Option.none) us).set u Option.none
        rw [← ihu]
        by_cases e : u = w
        · subst e; rw [List.set_set]
        · rw [List.set_comm _ _ e]
    show Slots K D H σ ((wp ρ vs).set w Option.none)
    rw [comm] at h1 ⊢
    exact ih h1
theorem Sd.unwipe {vs : List Nat} (h : Sd K D H T (L2.wipe σ vs) (wp ρ vs)) : Sd K D H T σ (wp ρ vs) := ⟨h.ex, h.tm, h.sl.unwipe, h.nd, h.out, h.tb⟩
theorem wp_wp (vs : List Nat) (ρ : Rh) : wp (wp ρ vs) vs = wp ρ vs := by
  have st : ∀ (us : List Nat) (ρ : Rh) (j : Nat), j ∈ us → wp (ρ.set j Option.none) us = wp ρ us := by
    intro us
    induction us with
    | nil => intro ρ j h; simp at h
    | cons u us ih =>
      intro ρ j h
      show (wp (ρ.set j Option.none) us).set u Option.none = (wp ρ us).set u Option.none
      by_cases h2 : j ∈ us
      · rw [ih _ _ h2]
      · have e : j = u := by simpa [h2] using h
        subst e
        have comm : ∀ (us : List Nat) (ρ : Rh), (wp ρ us).set j Option.none = wp (ρ.set j Option.none) us := by
          intro us
          induction us with
          | nil => intro ρ; rfl
          | cons u us ihu =>
            intro ρ
            show ((wp ρ us).set u Option.none).set j Option.none = (wp (ρ.set j Option.none) us).set u Option.none
            rw [← ihu]
            by_cases e : u = j
            · subst e; rw [List.set_set]
            · rw [List.set_comm _ _ e]
        rw [← comm, List.set_set]
  have key : ∀ (ws : List Nat) (ρ : Rh), (∀ w ∈ ws, w ∈ vs) → wp (wp ρ ws) vs = wp ρ vs := by
    intro ws
    induction ws with
    | nil => intro ρ _; rfl
    | cons w ws ih =>
      intro ρ h
      show wp ((wp ρ ws).set w Option.none) vs = _
      rw [st _ _ _ (h w List.mem_cons_self), ih _ fun y hy => h y (List.mem_cons_of_mem _ hy)]
  exact key vs ρ fun _ h => h
/-- an item behind a new list that stands as a temporary -/
theorem Sd.app {xs : List Ow} {b : Addr} {y : V} (h : Sd K D H ((y, o) :: (.ref b, .l b xs) :: T) σ ρ) : ∃ acc, H b = some (.lst acc) ∧ acc.length = xs.length ∧ Sd K D (upd H b (.lst (acc ++ [y]))) ((.ref b, .l b (xs ++ [o])) :: T) σ ρ := by
  have hb := h.tm (.ref b, .l b xs) (List.mem_cons_of_mem _ List.mem_cons_self)
  have hy := h.tm (y, o) List.mem_cons_self
  cases hb with
  | l g1 g2 =>
    rename_i acc
    refine ⟨acc, g1, g2.length, ?_⟩
    have nd : (o.fp ++ ((b :: fps xs) ++ fpT T) ++ fpR ρ).Nodup := h.nd
    have out : ∀ a ∈ o.fp ++ ((b :: fps xs) ++ fpT T) ++ fpR ρ, D a = none := h.out
    have fb : D b = none := out b (by simp)
    have pm : ((b :: fps (xs ++ [o])) ++ fpT T ++ fpR ρ).Perm (o.fp ++ ((b :: fps xs) ++ fpT T) ++ fpR ρ) := by
      refine List.Perm.append_right _ ?_
      rw [fps_app]
      show ((b :: (fps xs ++ (o.fp ++ []))) ++ fpT T).Perm (o.fp ++ ((b :: fps xs) ++ fpT T))
      rw [List.append_nil, ← List.append_assoc o.fp]
      refine List.Perm.append_right _ ?_
      exact (List.perm_append_comm (l₁ := b :: fps xs) (l₂ := o.fp))
    have nb : ∀ a ∈ o.fp ++ (fps xs ++ fpT T) ++ fpR ρ, a ≠ b := fun a ha z => by
      have q : (b :: (o.fp ++ (fps xs ++ fpT T) ++ fpR ρ)).Nodup := by
        refine List.Perm.nodup_iff ?_ |>.mp nd
        show (o.fp ++ (b :: (fps xs ++ fpT T)) ++ fpR ρ).Perm _
        exact (List.perm_middle.append_right _)
      rw [List.nodup_cons] at q
      exact q.1 (by rw [← z]; exact ha)
    have kp : ∀ {w : V} {u : Ow}, DenO K D H w u → (∀ a ∈ u.fp, a ∈ o.fp ++ (fps xs ++ fpT T) ++ fpR ρ) → DenO K D (upd H b (.lst (acc ++ [y]))) w u := fun g m => g.keep (Ex.refl D) fun a ha u hu => by rw [upd_ne (nb a (m a ha))]; exact hu
    refine .mk' (L := o.fp ++ ((b :: fps xs) ++ fpT T) ++ fpR ρ) (fun c u hc => by rw [upd_ne (fun z => by rw [z, fb] at hc; cases hc)]; exact h.ex c u hc) (fun q hq => ?_)
      (h.sl.keep (Ex.refl D) fun a ha u hu => by rw [upd_ne (nb a (List.mem_append_right _ ha))]; exact hu) pm nd out
    rcases List.mem_cons.mp hq with z | z
    · subst z
      refine .l upd_same (DenOs.app (g2.keep (Ex.refl D) fun a ha u hu => by rw [upd_ne (nb a (by simp [ha]))]; exact hu) (.cons (kp hy fun a ha => by simp [ha]) .nil))
    · exact kp (h.tm q (List.mem_cons_of_mem _ (List.mem_cons_of_mem _ z))) fun a ha => by simp [mem_fpT z ha]
/-- a new list becomes data -/
theorem Sd.frz {b : Addr} {ds : List Dat} (h : Sd K D H ((.ref b, .l b (ds.map Ow.d)) :: T) σ ρ) : ∃ D', Sd K D' H ((.ref b, .d (.lst ds)) :: T) σ ρ := by
  have hb := h.tm (.ref b, .l b (ds.map Ow.d)) List.mem_cons_self
  cases hb with
  | l g1 g2 =>
    rename_i vs
    have fb : D b = none := h.out b (by show b ∈ ((b :: fps (ds.map Ow.d)) ++ fpT T) ++ fpR ρ; simp)
    have nb : ∀ a ∈ fpT T ++ fpR ρ, a ≠ b := fun a ha z => by
      have q : ((b :: fps (ds.map Ow.d)) ++ fpT T ++ fpR ρ).Nodup := h.nd
      rw [fps_map] at q
      have q' : (b :: (fpT T ++ fpR ρ)).Nodup := q
      rw [List.nodup_cons] at q'
      exact q'.1 (by rw [← z]; exact ha)
    have e : Ex D (upd D b (.lst vs)) := Ex.new fb
    refine ⟨upd D b (.lst vs), (h.pop.grow e (fun a u hu => ?_) (fun a _ u hu => hu) fun a ha => by rw [upd_ne (nb a ha)]; exact h.pop.out a ha).push (.lst upd_same (g2.toAll.mono e))⟩
    by_cases q : a = b
    · subst q; rw [upd_same] at hu; cases hu; exact g1
    · rw [upd_ne q] at hu; exact h.ex a u hu
def onE (k : Ow → Rh → Prop) : EPost := fun r ρ => match r with
  | .ok o => k o ρ
  | .ex _ _ => False
def LcP (K : PySem.W.Frag) [HasTabs K] (g : TG) (ws : List Nat) (tt : TT) (te : TE) (vs : List Nat) : List Dat → Rh → List Ow → (List Ow → Rh → Prop) → Prop
  | [], ρ, acc, P => P acc ρ
  | d :: ds, ρ, acc, P => GvP K g ws ρ d (fun ρ1 => TvP K E0 tt ρ1 (onE fun o ρ2 => ∃ b, o = .d (.bl b) ∧
      (b = true → EvP K E0 te ρ2 (onE fun o ρ3 => LcP K g ws tt te vs ds (wp ρ3 vs) (acc ++ [o]) P)) ∧ (b = false → LcP K g ws tt te vs ds (wp ρ2 vs) acc P)))
theorem XOk.no {k : Ow → Rh → Prop} : XOk K E T σ (onE k) := fun _ _ _ _ _ _ q => q.elim
theorem LcP.len {g : TG} {ws : List Nat} {tt : TT} {te : TE} {vs : List Nat} : True := trivial
theorem ev_lc {wi : TI} {g : TG} {ws vs : List Nat} (hws : ∀ j ∈ ws, j ∈ vs) (h : IvP K E wi ρ (fun ds os ρ1 => ds.length ≤ 100000 ∧ LcP K g ws tt te vs ds (wp ρ1 vs) [] (fun acc ρ2 => ∀ b, P (.ok (.l b acc)) (bks os (wp ρ2 vs)))) P) : EvP K E (tLc wi g tt te vs) ρ P := by
  intro D H T σ Q s k xo
  refine h D H T σ _ s (fun J A ds ρ1 D1 H1 q1 wk s1 => ?_) (xo.sub0 fun _ _ _ z => z)
  obtain ⟨hlen, q1⟩ := q1
  intro Dl hD
  have s0 : Sd K D1 (upd H1 Dl (.lst [])) ((.ref Dl, .l Dl []) :: (A ++ T)) σ ρ1 := Sd.own (vs := []) (os := []) s1 rfl hD
  refine ⟨fun i m H' => i + m = ds.length ∧ ∃ D' ρ' acc, acc.length ≤ i ∧ Sd K D' H' ((.ref Dl, .l Dl acc) :: (A ++ T)) (L2.wipe σ vs) (wp ρ' vs) ∧ LcP K g ws tt te vs (ds.drop i) (wp ρ' vs) acc (fun acc ρ2 => ∀ b, P (.ok (.l b acc)) (bks (A.map Prod.snd) (wp ρ2 vs))),
    ⟨ds.length, by omega, D1, ρ1, [], Nat.le_refl _, s0.wipe vs, q1⟩, ?_⟩
  rintro i m H' ⟨hm, D', ρ', acc, hacc, s', q'⟩
  obtain ⟨wg, wst, wy⟩ := wk D' H' s'.ex fun p hp => s'.tm p (List.mem_cons_of_mem _ (List.mem_append_left _ hp))
  by_cases hi : i < ds.length
  · have e : ds.drop i = ds[i] :: ds.drop (i + 1) := List.drop_eq_getElem_cons hi
    rw [e] at q'
    refine .inr ⟨wg i hi, fun H2 => ∃ D2 ρ2 acc, acc.length ≤ i + 1 ∧ Sd K D2 H2 ((.ref Dl, .l Dl acc) :: (A ++ T)) (L2.wipe σ vs) (wp ρ2 vs) ∧ LcP K g ws tt te vs (ds.drop (i + 1)) (wp ρ2 vs) acc (fun acc ρ2 => ∀ b, P (.ok (.l b acc)) (bks (A.map Prod.snd) (wp ρ2 vs))),
      fun H2 ⟨D2, ρ2, acc2, z0, z1, z2⟩ => ⟨m - 1, by omega, by omega, D2, ρ2, acc2, z0, z1, z2⟩, fun x H2 y => ?_⟩
    obtain ⟨d, hd, yd⟩ := wy i x H2 hi y
    rw [List.getElem?_eq_getElem hi] at hd
    have hd' : ds[i] = d := Option.some.inj hd
    rw [hd'] at q'
    obtain ⟨D2, s2⟩ := s'.yld yd
    refine q' D2 H2 _ (L2.wipe σ vs) x _ s2 fun σ3 ρ3 D3 H3 q3 s3 w3 => ?_
    have ew : L2.wipe σ3 vs = L2.wipe σ vs := (w3 vs hws).trans (wipe_wipe vs σ)
    refine ⟨ew, ?_⟩
    refine q3 D3 H3 _ σ3 _ s3 (fun b ρ4 D4 H4 q4 s4 => ?_) .no
    obtain ⟨b', eb, h1, h2⟩ := q4
    cases eb
    cases b with
    | true =>
      rw [if_pos rfl]
      refine h1 rfl D4 H4 _ σ3 _ s4 (fun y o ρ5 D5 H5 q5 s5 => ?_) .no
      obtain ⟨av, g1, g2, g3⟩ := s5.app
      refine ⟨av, g1, sz_lt (by omega), D5, ρ5, _, ?_, ?_, q5⟩
      · rw [List.length_append]; simp; omega
      · have := g3.wipe vs
        rw [ew] at this
        exact this
    | false =>
      rw [if_neg Bool.false_ne_true]
      refine ⟨D4, ρ4, acc, by omega, ?_, h2 rfl⟩
      have := s4.wipe vs
      rw [ew] at this
      exact this
  · have e : i = ds.length := by omega
    subst e
    rw [List.drop_length] at q'
    refine .inl ⟨wst, k _ _ _ D' H' (q' Dl) ?_⟩
    rw [wp_wp]
    exact Sd.bksA2 (Sd.perm (T := (V.ref Dl, Ow.l Dl acc) :: (A ++ T)) s'.unwipe (List.Perm.refl _))
end
end DL

/-! ### E. calls and defs -/
namespace DL
open PySem L2 Evl
section
variable {K : PySem.W.Frag} [HasTabs K] {E : XK} {te ta tb : TE} {tt tu : TT} {tas : TA} {ts tw : TS} {ρ : Rh} {P P' : EPost} {S : SPost} {D D' H H' : Hp} {T : Tm} {σ : St} {v : V} {o : Ow} {i : Nat} {a p : Addr}
abbrev Pr := List Ow → (Re → List Ow → Prop) → Prop
def spOf (K : PySem.W.Frag) [HasTabs K] (R : Pr) : Sp := fun vs H Q E => ∃ D T os P, vs.length = os.length ∧ Sd K D H (vs.zip os ++ T) [] [] ∧ R os P ∧
  (∀ v o os' D' H', P (.ok o) os' → vs.length = os'.length → Sd K D' H' ((v, o) :: (vs.zip os' ++ T)) [] [] → Q v H') ∧
  (∀ C fs os' D' H' d, P (.ex C fs) os' → vs.length = os'.length → Sd K D' H' (vs.zip os' ++ T) [] [] → XAt K D' H' d fs → E (.ref C) (some d) H')
/-- the known slots as temporaries -/
def toTm : St → Rh → Tm
  | some v :: σ, some o :: ρ => (v, o) :: toTm σ ρ
  | _ :: σ, _ :: ρ => toTm σ ρ
  | _, _ => []
theorem Slots.tm : ∀ {σ : St} {ρ : Rh}, Slots K D H σ ρ → (∀ p ∈ toTm σ ρ, DenO K D H p.1 p.2) ∧ fpT (toTm σ ρ) = fpR ρ
  | _, _, .nil => ⟨fun p h => by simp [toTm] at h, rfl⟩
  | _, _, .skip (v := v) (σ := σ) (ρ := ρ) r => by
    obtain ⟨h1, h2⟩ := Slots.tm r
    have e : toTm (v :: σ) (Option.none :: ρ) = toTm σ ρ := by cases v <;> rfl
    rw [e]
    exact ⟨h1, h2⟩
  | _, _, .cons (v := v) (o := o) (σ := σ) (ρ := ρ) q r => by
    obtain ⟨h1, h2⟩ := Slots.tm r
    refine ⟨fun p h => ?_, ?_⟩
    · rcases List.mem_cons.mp (show p ∈ (v, o) :: toTm σ ρ from h) with e | e
      · subst e; exact q
      · exact h1 p e
    · show o.fp ++ fpT (toTm σ ρ) = o.fp ++ fpR ρ
      rw [h2]
theorem Slots.ofTm : ∀ {σ : St} {ρ : Rh}, Slots K D H σ ρ → (∀ p ∈ toTm σ ρ, DenO K D' H' p.1 p.2) → Slots K D' H' σ ρ
  | _, _, .nil, _ => .nil
  | _, _, .skip (v := v) (σ := σ) (ρ := ρ) r, h => by
    have e : toTm (v :: σ) (Option.none :: ρ) = toTm σ ρ := by cases v <;> rfl
    rw [e] at h
    exact .skip (Slots.ofTm r h)
  | _, _, .cons q r, h => .cons (h _ List.mem_cons_self) (Slots.ofTm r fun p hp => h p (List.mem_cons_of_mem _ hp))
theorem Sd.out' (h : Sd K D H T σ ρ) : Sd K D H (T ++ toTm σ ρ) [] [] := by
  obtain ⟨h1, h2⟩ := h.sl.tm
  have e : fpT (T ++ toTm σ ρ) ++ fpR [] = fpT T ++ fpR ρ := by
    rw [fpT_app, h2]
    exact List.append_nil _
  refine ⟨h.ex, fun p hp => ?_, .nil, by rw [e]; exact h.nd, by rw [e]; exact h.out, h.tb⟩
  rcases List.mem_append.mp hp with z | z
  · exact h.tm p z
  · exact h1 p z
theorem Sd.inn (s : Slots K D H σ ρ) (h : Sd K D' H' (T ++ toTm σ ρ) [] []) : Sd K D' H' T σ ρ := by
  obtain ⟨_, h2⟩ := s.tm
  have e : fpT (T ++ toTm σ ρ) ++ fpR [] = fpT T ++ fpR ρ := by
    rw [fpT_app, h2]
    exact List.append_nil _
  have nd := h.nd
  have out := h.out
  rw [e] at nd out
  exact ⟨h.ex, fun p hp => h.tm p (List.mem_append_left _ hp), s.ofTm fun p hp => h.tm p (List.mem_append_right _ hp), nd, out, h.tb⟩
theorem zip_snoc {vs ws : List V} {os us : List Ow} (e : vs.length = os.length) : (vs ++ ws).zip (os ++ us) = vs.zip os ++ ws.zip us := List.zip_append e
theorem den_vals : ∀ (ds : List Dat), ds.all Dat.atm = true → ∀ p ∈ (ds.map Dat.val).zip (ds.map Ow.d), DenO K D H p.1 p.2
  | [], _, p, h => by simp at h
  | d :: ds, ha, p, h => by
    rw [List.all_cons, Bool.and_eq_true] at ha
    rcases List.mem_cons.mp (show p ∈ (d.val, Ow.d d) :: (ds.map Dat.val).zip (ds.map Ow.d) from h) with e | e
    · subst e; exact .d (Den.at_v ha.1)
    · exact den_vals ds ha.2 p e
/-- f(..), the defaults behind -/
theorem ev_callD {R : Pr} (dds : List Dat) (hd : dds.all Dat.atm = true) (h : AvP K E tas ρ (fun os ρ1 => R (os ++ dds.map Ow.d) (fun r os' => P r (bks os' ρ1))) P) : EvP K E (tCall (spOf K R) (dds.map Dat.val) E tas) ρ P := by
  intro D H T σ Q s k xo
  refine h D H T σ _ s (fun vs os ρ1 D1 H1 q1 e1 s1 => ?_) (xo.sub0 fun _ _ _ z => z)
  have el : (vs ++ dds.map Dat.val).length = (os ++ dds.map Ow.d).length := by simp [e1]
  have st : Sd K D1 H1 ((vs ++ dds.map Dat.val).zip (os ++ dds.map Ow.d) ++ (T ++ toTm σ ρ1)) [] [] := by
    have g := s1.out'
    rw [zip_snoc e1]
    have fz : fpT ((dds.map Dat.val).zip (dds.map Ow.d)) = [] := by rw [fpT_zip (by simp), fps_map]
    have e : fpT ((vs.zip os ++ (dds.map Dat.val).zip (dds.map Ow.d)) ++ (T ++ toTm σ ρ1)) ++ fpR [] = fpT ((vs.zip os ++ T) ++ toTm σ ρ1) ++ fpR [] := by
      rw [fpT_app, fpT_app, fz, List.append_nil, fpT_app, fpT_app, fpT_app]
      simp only [List.append_assoc]
    refine ⟨g.ex, fun p hp => ?_, .nil, by rw [e]; exact g.nd, by rw [e]; exact g.out, g.tb⟩
    rcases List.mem_append.mp hp with z | z
    · rcases List.mem_append.mp z with z | z
      · exact g.tm p (List.mem_append_left _ (List.mem_append_left _ z))
      · exact den_vals dds hd p z
    · rcases List.mem_append.mp z with z | z
      · exact g.tm p (List.mem_append_left _ (List.mem_append_right _ z))
      · exact g.tm p (List.mem_append_right _ z)
  refine ⟨D1, T ++ toTm σ ρ1, _, _, el, st, q1, fun v o os' D' H' q e' s' => ?_, fun C fs os' D' H' d q e' s' x => ?_⟩
  · have s2 : Sd K D' H' (((v, o) :: ((vs ++ dds.map Dat.val).zip os' ++ T)) ++ toTm σ ρ1) [] [] := by
      rw [List.cons_append, List.append_assoc]
      exact s'
    exact k v o _ D' H' q (Sd.bks2 e' (s2.inn s1.sl))
  · have s2 : Sd K D' H' (((vs ++ dds.map Dat.val).zip os' ++ T) ++ toTm σ ρ1) [] [] := by
      rw [List.append_assoc]
      exact s'
    exact xo C fs _ D' H' d q (Sd.bks e' (s2.inn s1.sl)) x
theorem ev_call {R : Pr} (h : AvP K E tas ρ (fun os ρ1 => R os (fun r os' => P r (bks os' ρ1))) P) : EvP K E (tCall (spOf K R) [] E tas) ρ P := by
  refine ev_callD [] rfl ?_
  intro D H T σ Q s k xo
  exact h D H T σ Q s (fun vs os ρ' D' H' q => k vs os ρ' D' H' (by show R (os ++ ([] : List Dat).map Ow.d) _; rw [show os ++ ([] : List Dat).map Ow.d = os from List.append_nil _]; exact q)) xo
/-! instances -/
def putD (f : Str) (x : Dat) : List (Str × Dat) → List (Str × Dat)
  | [] => [(f, x)]
  | (g, y) :: r => if g = f then (g, x) :: r else (g, y) :: putD f x r
theorem DenF.put {f : Str} {x : Dat} (q : Den K D v x) : ∀ {vs : List (Str × V)} {ds : List (Str × Dat)}, DenF K D vs ds → DenF K D (putF f v vs) (putD f x ds)
  | _, _, .nil => .cons q .nil
  | _, _, .cons (f := g) r t => by
    show DenF K D (if g = f then _ else _) (if g = f then _ else _)
    by_cases h : g = f
    · rw [if_pos h, if_pos h]; exact .cons q t
    · rw [if_neg h, if_neg h]; exact .cons r (DenF.put q t)
theorem DenF.len : ∀ {vs : List (Str × V)} {ds : List (Str × Dat)}, DenF K D vs ds → vs.length = ds.length
  | _, _, .nil => rfl
  | _, _, .cons _ t => by rw [List.length_cons, List.length_cons, DenF.len t]
/-- a temporary's owned object becomes data -/
theorem Sd.frzO {b C : Addr} {gs : List (Str × Dat)} {w : V} (h : Sd K D H ((w, .o b C gs) :: T) σ ρ) : ∃ D', Sd K D' H ((w, .d (.obj C gs)) :: T) σ ρ := by
  have hb := h.tm (w, .o b C gs) List.mem_cons_self
  cases hb with
  | o g1 g2 =>
    rename_i dx fs
    have fb : D b = none := h.out b (by show b ∈ (b :: ([] ++ fpT T)) ++ fpR ρ; simp)
    have nb : ∀ a ∈ fpT T ++ fpR ρ, a ≠ b := fun a ha z => by
      have q' : (b :: (fpT T ++ fpR ρ)).Nodup := h.nd
      rw [List.nodup_cons] at q'
      exact q'.1 (by rw [← z]; exact ha)
    have e : Ex D (upd D b (.ins C dx fs)) := Ex.new fb
    refine ⟨upd D b (.ins C dx fs), (h.pop.grow e (fun a u hu => ?_) (fun a _ u hu => hu) fun a ha => by rw [upd_ne (nb a ha)]; exact h.pop.out a ha).push (.obj upd_same (g2.mono e))⟩
    by_cases q : a = b
    · subst q; rw [upd_same] at hu; cases hu; exact g1
    · rw [upd_ne q] at hu; exact h.ex a u hu
/-- C(..): made, its __init__ called; it becomes data (mkd) or stays owned (mko) -/
theorem ev_makeG {C : Addr} {R : Pr} (h : AvP K E tas ρ (fun os ρ1 => ∀ x, R (.o x C [] :: os) (fun r os' => match r with
    | .ok o => o = .d .non ∧ ∃ fs os2, os' = .o x C fs :: os2 ∧ (P (.ok (.o x C fs)) (bks os2 ρ1) ∨ P (.ok (.d (.obj C fs))) (bks os2 ρ1))
    | .ex C' fs => ∃ o2 os2, os' = o2 :: os2 ∧ P (.ex C' fs) (bks os2 ρ1))) P) : EvP K E (tMake C (spOf K R) [] E tas) ρ P := by
  intro D H T σ Q s k xo
  refine h D H T σ _ s (fun vs os ρ1 D1 H1 q1 e1 s1 => ?_) (xo.sub0 fun _ _ _ z => z)
  intro x dx nx ndx ne
  have s2 := (s1.newO ndx (.own x)).out'
  have nx2 : upd H1 dx (.own x) x = none := by rw [upd_ne (fun z => ne z.symm)]; exact nx
  have s3 : Sd K D1 (upd (upd H1 dx (.own x)) x (.ins C dx [])) ((.ref x, .o x C []) :: ((vs.zip os ++ T) ++ toTm σ ρ1)) [] [] := by
    have g := s2.newO nx2 (.ins C dx [])
    refine ⟨g.ex, fun p hp => ?_, .nil, ?_, fun b hb => ?_, g.tb⟩
    · rcases List.mem_cons.mp hp with z | z
      · subst z; exact .o upd_same .nil
      · exact g.tm p z
    · show (x :: ([] ++ fpT ((vs.zip os ++ T) ++ toTm σ ρ1) ++ fpR [])).Nodup
      rw [List.nil_append, List.nodup_cons]
      exact ⟨fun z => s2.nep nx2 x z rfl, s2.nd⟩
    · rcases List.mem_cons.mp (show b ∈ x :: (fpT ((vs.zip os ++ T) ++ toTm σ ρ1) ++ fpR []) from hb) with z | z
      · rw [z]; exact s1.dnone nx
      · exact s2.out b z
  have e0 : (V.ref x :: (vs ++ [])).length = (Ow.o x C [] :: os).length := by simp [e1]
  refine ⟨D1, T ++ toTm σ ρ1, .o x C [] :: os, _, e0, ?_, q1 x, fun v o os' D' H' q e' s' => ?_, fun C2 fs os' D' H' d q e' s' xx => ?_⟩
  · rw [List.append_nil]
    show Sd K D1 _ ((.ref x, .o x C []) :: (vs.zip os ++ (T ++ toTm σ ρ1))) [] []
    rw [← List.append_assoc]
    exact s3
  · obtain ⟨rfl, fs, os2, rfl, q⟩ := q
    have e2 : vs.length = os2.length := by simpa using e'
    have hv := s'.tm (v, _) List.mem_cons_self
    refine ⟨by cases hv with | d hv => cases hv; rfl, ?_⟩
    rw [List.append_nil] at s'
    have s4 : Sd K D' H' (((.ref x, .o x C fs) :: (vs.zip os2 ++ T)) ++ toTm σ ρ1) [] [] := by
      rw [List.cons_append, List.append_assoc]
      exact s'.pop
    have s5 : Sd K D' H' ((.ref x, .o x C fs) :: T) σ (DL.bks os2 ρ1) := Sd.bks2 e2 (s4.inn s1.sl)
    rcases q with q | q
    · exact k _ _ _ D' H' q s5
    · obtain ⟨D2, s6⟩ := s5.frzO
      exact k _ _ _ D2 H' q s6
  · obtain ⟨o2, os2, rfl, q⟩ := q
    have e2 : vs.length = os2.length := by simpa using e'
    rw [List.append_nil] at s'
    have s4 : Sd K D' H' (((.ref x, o2) :: (vs.zip os2 ++ T)) ++ toTm σ ρ1) [] [] := by
      rw [List.cons_append, List.append_assoc]
      exact s'
    exact xo C2 fs _ D' H' d q (Sd.bks2 e2 (s4.inn s1.sl)).pop xx
theorem ev_make {C : Addr} {R : Pr} (h : AvP K E tas ρ (fun os ρ1 => ∀ x, R (.o x C [] :: os) (fun r os' => match r with
    | .ok o => o = .d .non ∧ ∃ fs os2, os' = .o x C fs :: os2 ∧ P (.ok (.d (.obj C fs))) (bks os2 ρ1)
    | .ex C' fs => ∃ o2 os2, os' = o2 :: os2 ∧ P (.ex C' fs) (bks os2 ρ1))) P) (mono : ∀ os (A B : Re → List Ow → Prop), (∀ r os, A r os → B r os) → R os A → R os B) : EvP K E (tMake C (spOf K R) [] E tas) ρ P := by
  refine ev_makeG ?_
  intro D H T σ Q s k xo
  refine h D H T σ Q s (fun vs os ρ' D' H' q => k vs os ρ' D' H' fun x => mono _ _ _ (fun r os' z => ?_) (q x)) xo
  cases r with
  | ok o => obtain ⟨z1, fs, os2, z2, z3⟩ := z; exact ⟨z1, fs, os2, z2, .inr z3⟩
  | ex C fs => exact z
theorem ev_fld {f : Str} (h : EvP K E ta ρ (bnd (fun o ρ1 => o.okR = true ∧ ∃ C gs d, o.dat = .obj C gs ∧ Cls K C ∧ NoAttr K C f ∧ gs.lookup f = some d ∧ P (.ok (.d d)) (bk o ρ1)) P)) : EvP K E (tFld K ta f) ρ P := by
  intro D H T σ Q s k xo
  refine h D H T σ _ s (fun v o ρ1 D1 H1 q1 s1 => ?_) (xo.sub0 fun _ _ _ z => z)
  obtain ⟨ho, C, gs, d, e, hC, hn, hl, q⟩ := q1
  have key : ∃ a dx fs, v = .ref a ∧ H1 a = some (.ins C dx fs) ∧ DenF K D1 fs gs := by
    have hv := s1.tm (v, o) List.mem_cons_self
    cases hv with
    | d hv =>
      have e' : _ = Dat.obj C gs := e
      subst e'
      cases hv with
      | obj g1 g2 => exact ⟨_, _, _, rfl, s1.ex _ _ g1, g2⟩
    | m a => cases ho
    | l g1 g2 => cases e
    | t g1 g2 => cases ho
    | z g1 g2 => cases ho
    | o g1 g2 =>
      cases e
      exact ⟨_, _, _, rfl, g1, g2⟩
    | q g1 g2 => cases ho
  obtain ⟨a, dx, fs, rfl, ha, hf⟩ := key
  obtain ⟨w, hw, dw⟩ := hf.look hl
  exact ⟨a, C, dx, fs, w, rfl, ha, hC, hn, hw, k _ _ _ D1 H1 q (s1.bk.push dw)⟩
theorem sv_fld {f : Str} {tv : TE} (h : EvP K E tv ρ (bndS (fun o ρ1 => ∃ d a C gs, o = .d d ∧ ρ1[i]? = some (some (.o a C gs)) ∧ Cls K C ∧ NoAttr K C f ∧ gs.length < 1000 ∧ S (.nx (ρ1.set i (some (.o a C (putD f d gs)))))) S)) : SvP K E (sFld K (tVar i) tv f) ρ S := by
  intro D H T σ En s w
  refine h D H T σ _ s (fun v o ρ1 D1 H1 q1 s1 => ?_) (.ofWd w fun _ _ _ z => z)
  obtain ⟨d, a, C, gs, rfl, hi, hC, hn, hl, q⟩ := q1
  have hv := s1.tm (v, _) List.mem_cons_self
  cases hv with
  | d hv =>
    obtain ⟨hs, dx, fs, ha, hf⟩ := s1.geto hi
    refine ⟨.ref a, hs, a, C, dx, fs, rfl, ha, hC, hn, by rw [hf.len]; exact hl, w.nx _ D1 _ _ q ?_⟩
    have s2 := s1.pop
    have hlen : i < ρ1.length := (List.getElem?_eq_some_iff.mp hi).1
    have fa : D1 a = none := s2.out a (List.mem_append_right _ ((fpR_none hi).mem_iff.mpr (List.mem_append_left _ List.mem_cons_self)))
    have pm : (fpT T ++ fpR (ρ1.set i (some (.o a C (putD f d gs))))).Perm (fpT T ++ fpR ρ1) := by
      refine List.Perm.append_left _ ((fpR_set _ hlen).trans ?_)
      exact (fpR_none hi).symm
    have nT : ∀ b ∈ fpT T ++ fpR (ρ1.set i none), b ≠ a := fun b hb z => by
      have q : (fpT T ++ (a :: fpR (ρ1.set i none))).Nodup := ((fpR_none hi).append_left _).nodup_iff.mp s2.nd
      have q2 : (a :: (fpT T ++ fpR (ρ1.set i none))).Nodup := List.perm_middle.nodup_iff.mp q
      rw [List.nodup_cons] at q2
      exact q2.1 (by rw [← z]; exact hb)
    have sl0 : Slots K D1 (upd H1 a (.ins C dx (putF f v fs))) σ (ρ1.set i none) := (s2.sl.none i).keep (Ex.refl D1) fun b hb u hu => by rw [upd_ne (nT b (List.mem_append_right _ hb))]; exact hu
    have sl1 := sl0.put hs (o := .o a C (putD f d gs)) (.o upd_same (hf.put hv))
    rw [List.set_set] at sl1
    exact .mk' (fun b u hb => by rw [upd_ne (fun z => by rw [z, fa] at hb; cases hb)]; exact s2.ex b u hb)
      (fun p hp => (s2.tm p hp).keep (Ex.refl D1) fun b hb u hu => by rw [upd_ne (nT b (List.mem_append_left _ (mem_fpT hp hb)))]; exact hu) sl1 pm s2.nd s2.out
/-! defs -/
def skel : Ow → Ow
  | .d x => .d x
  | .m a => .m a
  | .l a _ => .m a
  | .t a _ => .m a
  | .z a _ _ _ => .m a
  | .o a _ _ => .m a
  | .q a u => .q a u
theorem DenO.skel (h : DenO K D H v o) : DenO K D H v (DL.skel o) := by
  cases h with
  | d q => exact .d q
  | m a => exact .m a
  | l _ _ => exact .m _
  | t _ _ => exact .m _
  | z _ _ => exact .m _
  | o _ _ => exact .m _
  | q h p => exact .q h p
theorem skel_fp : (skel o).fp = [] := by cases o <;> rfl
theorem skels_fp : ∀ os : List Ow, fps (os.map skel) = []
  | [] => rfl
  | o :: os => by
    show (skel o).fp ++ fps (os.map skel) = []
    rw [skel_fp, skels_fp os]
    rfl
inductive Pms : List Ow → Rh → List Ow → Prop
  | nil {ρ : Rh} : Pms [] ρ []
  | dat {d : Dat} {x : Option Ow} {os : List Ow} {ρ : Rh} {us : List Ow} : Pms os ρ us → Pms (.d d :: os) (x :: ρ) (.d d :: us)
  | own {o o' : Ow} {a : Addr} {os : List Ow} {ρ : Rh} {us : List Ow} : o.root = some a → o'.root = some a → Pms os ρ us → Pms (o :: os) (some o' :: ρ) (o' :: us)
theorem Pms.len {os us : List Ow} {ρ : Rh} (h : Pms os ρ us) : os.length = us.length := by
  induction h with
  | nil => rfl
  | dat _ ih => simp [ih]
  | own _ _ _ ih => simp [ih]
theorem Pms.sub {os us : List Ow} {ρ : Rh} (h : Pms os ρ us) : (fps us).Sublist (fpR ρ) := by
  induction h with
  | nil => exact List.nil_sublist _
  | dat _ ih => exact ih.trans (List.sublist_append_right _ _)
  | own _ _ _ ih => exact ih.append_left _
theorem Sd.exit {os us : List Ow} {vs : List V} {A : Tm} (h : Sd K D H (A ++ (vs.zip (os.map DL.skel) ++ T)) σ ρ) (m : Pms os ρ us) (e : vs.length = os.length) : Sd K D H (A ++ (vs.zip us ++ T)) [] [] := by
  have ev : vs.length = us.length := e.trans m.len
  have hd : ∀ p ∈ vs.zip us, DenO K D H p.1 p.2 := by
    have key : ∀ {os us : List Ow} {ρ : Rh} {vs : List V} {σ : St}, Pms os ρ us → vs.length = os.length → Slots K D H σ ρ → (∀ p ∈ vs.zip (os.map DL.skel), DenO K D H p.1 p.2) → ∀ p ∈ vs.zip us, DenO K D H p.1 p.2 := by
      intro os us ρ vs σ m
      induction m generalizing vs σ with
      | nil => intro e _ _ p hp; simp at hp
      | dat m ih =>
        intro e s k p hp
        match vs, e with
        | v :: vs, e =>
          rcases List.mem_cons.mp (show p ∈ (v, _) :: vs.zip _ from hp) with z | z
          · subst z; exact k _ List.mem_cons_self
          · cases s with
            | skip s => exact ih (by simpa using e) s (fun p hp => k p (List.mem_cons_of_mem _ hp)) p z
            | cons _ s => exact ih (by simpa using e) s (fun p hp => k p (List.mem_cons_of_mem _ hp)) p z
      | own r r' m ih =>
        rename_i o1 o2 a1 _ _ _
        intro e s k p hp
        match vs, e with
        | v :: vs, e =>
          cases s with
          | cons q s =>
            rcases List.mem_cons.mp (show p ∈ (v, _) :: vs.zip _ from hp) with z | z
            · subst z
              have k0 := k (v, DL.skel o1) List.mem_cons_self
              have hv : v = .ref a1 := by
                cases o1 <;> simp [Ow.root] at r <;> subst r <;> cases k0 <;> rfl
              have hq := root_ref r' q
              subst hq
              subst hv
              exact q
            · exact ih (by simpa using e) s (fun p hp => k p (List.mem_cons_of_mem _ hp)) p z
    exact key m e h.sl fun p hp => h.tm p (List.mem_append_right _ (List.mem_append_left _ hp))
  have ez : fpT (vs.zip (os.map DL.skel)) = [] := by rw [fpT_zip (by simp [e]), skels_fp]
  have sb : (fpT (A ++ (vs.zip us ++ T)) ++ fpR []).Perm (fpT A ++ fpT T ++ fps us) := by
    rw [fpT_app, fpT_app, fpT_zip ev]
    show (fpT A ++ (fps us ++ fpT T) ++ []).Perm _
    rw [List.append_nil, List.append_assoc]
    exact List.perm_append_comm.append_left _
  have nd := h.nd
  have out := h.out
  rw [fpT_app, fpT_app, ez, List.nil_append] at nd out
  refine .mk' h.ex (fun p hp => ?_) .nil sb ((m.sub.append_left _).nodup nd) fun b hb => out b ((m.sub.append_left _).subset hb)
  rcases List.mem_append.mp hp with z | z
  · exact h.tm p (List.mem_append_left _ z)
  · rcases List.mem_append.mp z with z | z
    · exact hd p z
    · exact h.tm p (List.mem_append_right _ (List.mem_append_right _ z))
def retS (os : List Ow) (Pp : Re → List Ow → Prop) : SPost := fun out => match out with
  | .rt o ρ => ∃ us, Pms os ρ us ∧ Pp (.ok o) us
  | .nx ρ => ∃ us, Pms os ρ us ∧ Pp (.ok (.d .non)) us
  | .xc C fs ρ => ∃ us, Pms os ρ us ∧ Pp (.ex C fs) us
  | _ => False
theorem Sd.start {os : List Ow} {vs : List V} (n : Nat) (h : Sd K D H (vs.zip os ++ T) [] []) (e : vs.length = os.length) : Sd K D H (vs.zip (os.map DL.skel) ++ T) (vs.map some ++ List.replicate n Option.none) (os.map some ++ List.replicate n Option.none) := by
  have sl : ∀ (vs : List V) (os : List Ow), vs.length = os.length → (∀ p ∈ vs.zip os, DenO K D H p.1 p.2) → Slots K D H (vs.map some ++ List.replicate n Option.none) (os.map some ++ List.replicate n Option.none) := by
    intro vs
    induction vs with
    | nil =>
      intro os e _
      cases os with
      | cons o os => simp at e
      | nil =>
        show Slots K D H (List.replicate n Option.none) (List.replicate n Option.none)
        induction n with
        | zero => exact .nil
        | succ n ih => exact .skip ih
    | cons v vs ih =>
      intro os e k
      cases os with
      | nil => simp at e
      | cons o os => exact .cons (k (v, o) List.mem_cons_self) (ih os (by simpa using e) fun p hp => k p (List.mem_cons_of_mem _ hp))
  have ez : fpT (vs.zip (os.map DL.skel)) = [] := by rw [fpT_zip (by simp [e]), skels_fp]
  have fr : ∀ (os : List Ow), fpR (os.map some ++ List.replicate n Option.none) = fps os := by
    intro os
    induction os with
    | nil =>
      show fpR (List.replicate n Option.none) = []
      clear sl
      induction n with
      | zero => rfl
      | succ n ih => exact ih
    | cons o os ih =>
      show o.fp ++ fpR (os.map some ++ _) = o.fp ++ fps os
      rw [ih]
  have pm : (fpT (vs.zip (os.map DL.skel) ++ T) ++ fpR (os.map some ++ List.replicate n Option.none)).Perm (fpT (vs.zip os ++ T) ++ fpR []) := by
    rw [fpT_app, ez, fr, fpT_app, fpT_zip e]
    show (fpT T ++ fps os).Perm (fps os ++ fpT T ++ [])
    rw [List.append_nil]
    exact List.perm_append_comm
  refine .mk' h.ex (fun p hp => ?_) (sl vs os e fun p hp => h.tm p (List.mem_append_left _ hp)) pm h.nd h.out
  rcases List.mem_append.mp hp with z | z
  · have key : ∀ (vs : List V) (os : List Ow), (∀ p ∈ vs.zip os, DenO K D H p.1 p.2) → ∀ p ∈ vs.zip (os.map DL.skel), DenO K D H p.1 p.2 := by
      intro vs
      induction vs with
      | nil => intro os _ p hp; simp at hp
      | cons v vs ih =>
        intro os k p hp
        cases os with
        | nil => simp at hp
        | cons o os =>
          rcases List.mem_cons.mp (show p ∈ (v, DL.skel o) :: vs.zip (os.map DL.skel) from hp) with z | z
          · subst z; exact (k (v, o) List.mem_cons_self).skel
          · exact ih os (fun p hp => k p (List.mem_cons_of_mem _ hp)) p z
    exact key vs os (fun p hp => h.tm p (List.mem_append_left _ hp)) p z
  · exact h.tm p (List.mem_append_right _ z)
end
section
variable {P : Program} {w : World} {K : PySem.W.Frag} [HasTabs K] {mg : Str → Option Value} {base : Heap}
/-- a body, run from its arguments -/
theorem run_body {E : XK} {t : TS} {R : Pr} {N ps : List Str} {vs : List V} {H : Hp} {Q : VK} (hN : vs.length ≤ N.length) (h : spOf K R vs H Q E) (body : ∀ os Pp, R os Pp → SvP K E t (os.map some ++ List.replicate (N.length - os.length) none) (retS os Pp)) :
    t { nx := fun _ H' => Q .non H', rt := Q } (L2.start N vs) H := by
  obtain ⟨D, T, os, Pp, e, s, r, k, kx⟩ := h
  have s1 := Sd.start (N.length - vs.length) s e
  rw [show L2.start N vs = vs.map some ++ List.replicate (N.length - vs.length) none from rfl]
  have b := body os Pp r
  rw [← e] at b
  refine b D H _ _ _ s1 ⟨?_, ?_, ?_, ?_, ?_⟩
  · rintro ρ' D' H' σ' ⟨us, m, q⟩ s'
    exact k _ _ us D' H' q (e.trans m.len) (Sd.exit (A := [(V.non, Ow.d .non)]) (s'.push .non) m e)
  · rintro v o ρ' D' H' σ' ⟨us, m, q⟩ s'
    exact k _ _ us D' H' q (e.trans m.len) (Sd.exit (A := [(v, o)]) s' m e)
  · intro ρ' D' H' σ' q s'
    exact q.elim
  · intro ρ' D' H' σ' q s'
    exact q.elim
  · rintro C fs ρ' D' H' σ' d ⟨us, m, q⟩ s' x
    exact kx C fs us D' H' d q (e.trans m.len) (Sd.exit (A := []) s' m e) x
theorem def_ok {x qual : Str} {st : Stmt} {f : Addr} {fd : FuncData} {N ps : List Str} {k : Nat} {R : Pr} (F : Fun K x qual st f fd) (S : FnScope N ps (defScope st)) (hl : ps.length ≤ N.length) (len : ∀ os Pp, R os Pp → os.length = ps.length)
    (hbody : ∀ (cdv : Value) (A : Around) (outer : List Env) (s : Shared) (H : Hp) (E : XK), Room k (A.deeper (PyProof.Rows.envOfC qual (defScope st) s.heap.objs.size f cdv)) →
      ∃ t, PSs (cxOf CX0 P w K mg base N qual (defScope st) f cdv A outer s H E).nox (defBody st) t ∧ ∀ os Pp, R os Pp → SvP K E0 t (os.map some ++ List.replicate (N.length - os.length) none) (retS os Pp))
    (noex : ∀ os Pp, R os Pp → R os (fun r us => (match r with | .ok _ => True | .ex _ _ => False) ∧ Pp r us)) : FnOk P w K mg base CX0 (k + 1) f fd ps (spOf K R) := by
  refine F.ok S (fun vs H Q E h => ?_) (fun cdv A outer s H vs Q E hr h => ?_)
  · obtain ⟨D, T, os, Pp, e, _, r, _⟩ := h
    exact e.trans (len os Pp r)
  · obtain ⟨t, ht, hb⟩ := hbody cdv A outer s H E hr
    refine ⟨t, ht, ?_⟩
    obtain ⟨D, T, os, Pp, e, s1, r, k1, k2⟩ := h
    refine run_body (K := K) (E := E0) (R := R) (ps := ps) (by rw [e, len os Pp r]; exact hl) ⟨D, T, os, _, e, s1, noex os Pp r, fun v o us D' H' q => k1 v o us D' H' q.2, fun C fs us D' H' d q => q.1.elim⟩ hb
theorem def_okX {x qual : Str} {st : Stmt} {f : Addr} {fd : FuncData} {N ps : List Str} {k : Nat} {R : Pr} (F : Fun K x qual st f fd) (S : FnScope N ps (defScope st)) (hl : ps.length ≤ N.length) (len : ∀ os Pp, R os Pp → os.length = ps.length)
    (hbody : ∀ (cdv : Value) (A : Around) (outer : List Env) (s : Shared) (H : Hp) (E : XK), Room k (A.deeper (PyProof.Rows.envOfC qual (defScope st) s.heap.objs.size f cdv)) →
      ∃ t, PSs (cxOf (L2.CX P w) P w K mg base N qual (defScope st) f cdv A outer s H E) (defBody st) t ∧ ∀ os Pp, R os Pp → SvP K E t (os.map some ++ List.replicate (N.length - os.length) none) (retS os Pp)) :
    FnOk P w K mg base (L2.CX P w) (k + 1) f fd ps (spOf K R) := by
  refine F.okX S (fun vs H Q E h => ?_) (fun cdv A outer s H vs Q E hr h => ?_)
  · obtain ⟨D, T, os, Pp, e, _, r, _⟩ := h
    exact e.trans (len os Pp r)
  · obtain ⟨t, ht, hb⟩ := hbody cdv A outer s H E hr
    refine ⟨t, ht, ?_⟩
    have hl2 : vs.length ≤ N.length := by
      obtain ⟨D, T, os, Pp, e, _, r, _⟩ := h
      rw [e, len os Pp r]
      exact hl
    exact run_body (ps := ps) hl2 h hb
end
end DL

/-! ### W. enumerate and zip over lists and tuples -/
namespace DL
open PySem L2 Evl PySem.Spec PyProof.Rows
def SqB (t : Bool) (K : PySem.W.Frag) (H : Hp) (a : Addr) (xs : List V) : Prop := match t with
  | true => SqT K H a xs
  | false => SqL K H a xs
def SrcB (t : Bool) (h : Heap) (a : Addr) (its : Array Value) : Prop := match t with
  | true => h.IsTuple a its
  | false => h.IsList a its
def ItrB (t : Bool) (h : Heap) (it a : Addr) (i : Nat) : Prop := match t with
  | true => h.IsTupleIter it a i
  | false => h.IsListIter it a i
def iobj (t : Bool) (a : Addr) : Obj := match t with
  | true => { cls := .type "tuple_iterator", data := .fields #[.ref a, .int 0 0] }
  | false => { cls := .type "list_iterator", data := .fields #[.ref a, .int 0 0] }
theorem begB (t : Bool) (a : Addr) (its : Array Value) : Begins (.ref a) (iobj t a) (fun h => SrcB t h a its) := by
  cases t
  · exact begins_list a its
  · exact begins_tuple a its
theorem drawsB {prog : Program} {w : World} {A : Around} (t : Bool) (hh : A.handled = none) (it a : Addr) (hne : a ≠ it) (its : Array Value) :
    Draws prog w A it [it, a] its.size (fun i v => its[i]? = some v) (fun i h => ItrB t h it a i ∧ SrcB t h a its) := by
  cases t
  · exact Draws.list hh it a hne its
  · exact Draws.tuple hh it a hne its
theorem itrB_new {t : Bool} {h : Heap} {it a : Addr} (e : h.get? it = some (iobj t a)) : ItrB t h it a 0 := by
  cases t
  · exact ⟨_, e, rfl, rfl⟩
  · exact ⟨_, e, rfl, rfl⟩
theorem itrB_obj {t : Bool} {h : Heap} {it a : Addr} {i : Nat} (q : ItrB t h it a i) : ∃ o, h.get? it = some o ∧ ∀ v, o.data ≠ .cell v := by
  cases t
  · obtain ⟨o, e, c, d⟩ := q; exact ⟨o, e, fun v z => by rw [d] at z; cases z⟩
  · obtain ⟨o, e, c, d⟩ := q; exact ⟨o, e, fun v z => by rw [d] at z; cases z⟩
theorem itrB_at {t : Bool} {h h' : Heap} {it a : Addr} {i : Nat} (q : ItrB t h it a i) (k : ∀ o, h.get? it = some o → h'.get? it = some o) : ItrB t h' it a i := by
  cases t
  · obtain ⟨o, e, c, d⟩ := q; exact ⟨o, k o e, c, d⟩
  · obtain ⟨o, e, c, d⟩ := q; exact ⟨o, k o e, c, d⟩
theorem srcB_keep {t : Bool} {h h' : Heap} {a : Addr} {its : Array Value} (q : SrcB t h a its) (k : ∀ o, h.get? a = some o → h'.get? a = some o) : SrcB t h' a its := by
  cases t
  · obtain ⟨o, e, c⟩ := q; exact ⟨o, k o e, c⟩
  · obtain ⟨o, e, c⟩ := q; exact ⟨o, k o e, c⟩
theorem srcB_lt {t : Bool} {h : Heap} {a : Addr} {its : Array Value} (q : SrcB t h a its) : a < h.objs.size := by
  cases t
  · obtain ⟨o, e, c⟩ := q; exact Heap.lt_size e
  · obtain ⟨o, e, c⟩ := q; exact Heap.lt_size e
section
variable {X : Cx} {pins : List (Addr × Obj)} {σ : L2.St} {H : Hp} {s : Shared}
theorem inv_seqB {t : Bool} {a : Addr} {xs : List V} (I : Inv X pins σ H s) (q : SqB t X.K H a xs) : ∃ its : List Value, Vals xs its ∧ SrcB t s.heap a its.toArray := by
  cases t
  · obtain ⟨its, r, p, _⟩ := I.list q; exact ⟨its, r, p.isList⟩
  · obtain ⟨its, r, p, _⟩ := I.tuple q; exact ⟨its, r, p⟩
end
theorem inv_injB {X : Cx} {pins : List (Addr × Obj)} {σ : L2.St} {H : Hp} {s : Shared} {t : Bool} {a : Addr} {xs ys : List V} (I : Inv X pins σ H s) (h : SqB t X.K H a xs) (h' : SqB t X.K H a ys) : xs = ys := by
  cases t
  · exact I.list_inj h h'
  · exact I.tuple_inj h h'
/-- each item in a new pair with its number -/
def ItE (t : Bool) (K : PySem.W.Frag) (a : Addr) : It :=
  ⟨fun i H => ∃ xs : List V, i < xs.length ∧ SqB t K H a xs, fun i H v H' => ∃ T x, v = .ref T ∧ H T = none ∧ H' = upd H T (.tup [.int (i : Nat), x]) ∧ ∀ xs, SqB t K H a xs → xs[i]? = some x, fun i H => ∃ xs : List V, i = xs.length ∧ SqB t K H a xs⟩
theorem turn_enumB {P : Program} {w : World} {K : PySem.W.Frag} {elts : List Expr} {kk : Nat} {tpos : Pos} (t : Bool) (a e it : Addr) :
    Turn P w K (.Tuple elts kk tpos) (ItE t K a) [e, it] e (fun i h => (∃ old, IsEnum h e it ((i : Nat) : Int) old) ∧ ItrB t h it a i ∧ e ≠ it ∧ a ≠ it ∧ a ≠ e) where
  mem := by simp
  obj := fun i h st b hb => by
    obtain ⟨⟨old, he⟩, q, _⟩ := st
    have e' : b = e ∨ b = it := by simpa using hb
    rcases e' with z | z
    · rw [z]; exact ⟨_, he, fun v q => nomatch q⟩
    · rw [z]; exact itrB_obj q
  keep := fun i h h' st k => let ⟨⟨old, he⟩, hi, hne⟩ := st; ⟨⟨old, k e (by simp) _ he⟩, itrB_at hi fun o q => k it (by simp) o q, hne⟩
  item := by
    intro X hP hw hK hc i pins s σ H E I hf st hg
    subst hP hw hK
    obtain ⟨⟨old, he⟩, hit, hne, hai, hae⟩ := st
    obtain ⟨xs, hx, hq⟩ := hg
    obtain ⟨its, rv, p⟩ := inv_seqB I hq
    have hxi : xs[i]? = some xs[i] := List.getElem?_eq_getElem hx
    obtain ⟨u, hu, ru⟩ := rv.get hxi
    have hel : e < s.heap.objs.size := Heap.lt_size he
    have hil : it < s.heap.objs.size := by obtain ⟨_, q, _⟩ := itrB_obj hit; exact Heap.lt_size q
    have D := drawsB (prog := X.prog) (w := X.w) (A := X.A.in1) t (I.ok.hd hc) it a hai its.toArray
    have hlen : i < its.toArray.size := by have := rv.length; simp; omega
    refine wpAny_pyNext_enum_itemC D he ⟨hit, p⟩ hlen hne (by simp [hne, Ne.symm hae]) fun x h' tk hP ho st' hT hsz hk => ?_
    have hxu : x = u := by
      have h2 : its.toArray[i]? = some u := by simpa using hu
      exact Option.some.inj (hP.symm.trans h2)
    subst hxu
    refine ⟨_, rfl, wpAny_letOwnedTupleGo_enum (s := { s with heap := h', toks := tk + 1 }) ho fun h'' he' sb => ?_⟩
    have hT2 : h''.get? s.heap.objs.size = some { cls := .type "tuple", data := .seq #[.int i tk, x] } := (sb.2 _ (Nat.ne_of_gt hel)).trans hT
    have new : ObjOk X.prog X.w (upd H s.heap.objs.size (.tup [.int (i : Nat), xs[i]])) h'' s.heap.objs.size (.tup [.int (i : Nat), xs[i]]) :=
      ⟨by show 2 ≤ sizeLine; decide, [.int i tk, x], .cons ⟨_, rfl⟩ (.cons ru .nil), ⟨_, hT2, rfl, _, rfl⟩⟩
    have I1 : Inv X pins σ (upd H s.heap.objs.size (.tup [.int (i : Nat), xs[i]])) { s with heap := h'', toks := tk + 1 } :=
      I.turnedNew (ch := [e, it]) (fun b ob hb q => (sb.2 b (fun z => hb (by simp [z]))).trans (hk b ob (fun z => hb (by simp [z])) (fun z => hb (by simp [z])) q)) hf (Nat.le_refl _) new
    refine ⟨.ref s.heap.objs.size, _, I1, rfl, ⟨_, xs[i], rfl, I.hok.fresh (Nat.le_refl _), rfl, fun zs hz => by rw [inv_injB I hz hq]; exact hxi⟩, ⟨⟨x, ?_⟩, itrB_at st'.1 fun o q => (sb.2 it (Ne.symm hne)).trans q, hne, hai, hae⟩, fun b hb => ?_⟩
    · have e1 : ((i + 1 : Nat) : Int) = (i : Int) + 1 := by omega
      rw [e1]; exact he'
    · have hb' : b < s.heap.objs.size := by
        have e' : b = e ∨ b = it := by simpa using hb
        rcases e' with z | z
        · rw [z]; exact hel
        · rw [z]; exact hil
      rw [upd_ne (Nat.ne_of_lt hb')]
      exact (hf b hb).1
  done := by
    intro X hP hw hK hc i pins s σ H E I hf st hg
    subst hP hw hK
    obtain ⟨⟨old, he⟩, hit, hne, hai, hae⟩ := st
    obtain ⟨xs, hx, hq⟩ := hg
    obtain ⟨its, rv, p⟩ := inv_seqB I hq
    obtain ⟨f0, f1, f2, f3, f4, f5⟩ := hf it (by simp)
    have hl := rv.length
    have D := drawsB (prog := X.prog) (w := X.w) (A := X.A.in1) t (I.ok.hd hc) it a hai its.toArray
    have hz : i = its.toArray.size := by simp; omega
    exact wpAny_pyNext_enum_endD D he (by rw [← hz]; exact ⟨hit, p⟩) fun h' eb => ⟨rfl, I.turned (t' := s.toks) (fun b o hb q => eb b o hb q) f0 f1 f3 f4 f5⟩
  self := fun A i s Q E st h => let ⟨⟨_, he⟩, _⟩ := st; wpAny_pyIter_enum he h
set_option maxHeartbeats 4000000 in
theorem meets_enumerate_new1 {v : Value} {o : Obj} {H : Heap → Prop} (B : Begins v o H) :
    Meets (Builtin.«enumerate.__new__» ⟨[.type "enumerate", v], []⟩) (fun _ R s => H s.heap ∧
      R (.ok (.ret (.ref (s.heap.push o).objs.size))) { s with heap := (s.heap.push o).push { cls := .type "enumerate", data := .fields #[.none, .bool false, .ref s.heap.objs.size, rawInt 0, .none, .none] } }) :=
  .of_wp fun prog w A R s h => by
    obtain ⟨hp, g, d, tk, os⟩ := s; obtain ⟨h1, h⟩ := h
    have hsub := sub_enumerate
    have q1 : ∀ {A' : Around} {E : Value → Shared → Prop} {Q : Value → Shared → Prop}, Q (.ref hp.objs.size) ⟨hp.push o, g, d, tk, os⟩ → wpAny (model prog w) A' (pyIter v) Q E ⟨hp, g, d, tk, os⟩ :=
      fun q => B.iter prog w _ _ ⟨hp, g, d, tk, os⟩ _ h1 q
    wp_walk using q1
    refine wpAny_stack_any fun st => wpAny_pure ?_
    split
    · rename_i c _ _ _ _ _
      cases (c == Value.type "enumerate")
      · wp_walk using q1
        exact ⟨_, rfl, h⟩
      · wp_walk using q1
        exact ⟨_, rfl, h⟩
    · wp_walk using q1
      exact ⟨_, rfl, h⟩
theorem enum_begins1 {prog : Program} {w : World} {A : Around} {E : Value → Shared → Prop} {s : Shared} {v : Value} {o : Obj} {H : Heap → Prop} {Q : Value → Shared → Prop} (B : Begins v o H) (h1 : H s.heap)
    (h : ∀ h', IsEnum h' (s.heap.objs.size + 1) s.heap.objs.size 0 .none → h'.get? s.heap.objs.size = some o → h'.objs.size = s.heap.objs.size + 2 →
      (∀ b o, s.heap.get? b = some o → h'.get? b = some o) → Q (.ref (s.heap.objs.size + 1)) { s with heap := h' }) :
    wpAny (model prog w) A (call (.type "enumerate") [v]) Q E s := by
  refine callType_new F.called_enumerate (by decide) (F.typeCall_enumerate_1 _) (F.newCall_enumerate_1 _) (fun obj => F.args_object_init_2 obj _) F.entry_enumerate_new
    (meets_enumerate_new1 B) ⟨h1, ?_⟩
  have hz : (s.heap.push o).objs.size = s.heap.objs.size + 1 := Heap.size_push ..
  show _ ∧ _
  rw [hz]
  have he : IsEnum ((s.heap.push o).push { cls := .type "enumerate", data := .fields #[.none, .bool false, .ref s.heap.objs.size, rawInt 0, .none, .none] }) (s.heap.objs.size + 1) s.heap.objs.size 0 .none := by
    have := Heap.get?_push_size (s.heap.push o) (o := { cls := .type "enumerate", data := .fields #[.none, .bool false, .ref s.heap.objs.size, rawInt 0, .none, .none] }) rfl
    rw [hz] at this; exact this
  refine ⟨⟨_, he, rfl⟩, h _ he (Heap.get?_push_of_some _ (Heap.get?_push_size _ B.free)) (by rw [Heap.size_push, hz]) fun b o x => Heap.get?_push_of_some _ (Heap.get?_push_of_some _ x)⟩
def iEnumB (K : PySem.W.Frag) (ta : TA) : TI := fun σ H R => ta σ H fun vs H1 => ∃ t a xs, vs = [.ref a] ∧ SqB t K H1 a xs ∧ R (ItE t K a) H1
theorem pi_enumB {X : Cx} {e : Expr} {ta : TA} {p pos tpos : Pos} {elts : List Expr} {kk : Nat} (hg : Gl X "enumerate") (hm : X.mg "enumerate" = none) (ha : PA X [e] ta) (hs : starEach [e] X.env = [(false, eval e X.env)] := by rfl) :
    PI X (.Tuple elts kk tpos) (.Call (.Name "enumerate" p) [e] [] pos) (iEnumB X.K ta) := by
  refine ⟨fun pins s σ H R I h => ?_⟩
  refine Call_ (ld_blt I hg hm boot_enumerate (PyProof.Rows.callWith_type1 (thn (ha.run pos pins s σ H _ I h) fun us s1 ⟨vs, H1, I1, r1, q1⟩ => ?_) hs rfl))
  obtain ⟨t, a, xs, ex, hq, q⟩ := q1
  subst ex
  cases r1 with
  | cons r rr =>
    cases rr
    cases r
    obtain ⟨its, rv, p'⟩ := inv_seqB I1 hq
    have hal := srcB_lt p'
    refine enum_begins1 (begB t a its.toArray) p' fun h' he hit hsz hk => wpAny_pyIter_enum he ?_
    have I2 : Inv X pins σ H1 { s1 with heap := h' } := I1.kept (t' := s1.toks) hk
    refine ⟨s1.heap.objs.size + 1, [s1.heap.objs.size + 1, s1.heap.objs.size], _, _, H1, rfl, I2, turn_enumB t a (s1.heap.objs.size + 1) s1.heap.objs.size, ⟨⟨.none, he⟩, itrB_new hit, Nat.succ_ne_self _, Nat.ne_of_lt hal, Nat.ne_of_lt (Nat.lt_succ_of_lt hal)⟩, fun b hb => ?_, q⟩
    have e' : b = s1.heap.objs.size + 1 ∨ b = s1.heap.objs.size := by simpa using hb
    have hle : s1.heap.objs.size ≤ b := by
      rcases e' with z | z
      · rw [z]; exact Nat.le_add_right _ _
      · rw [z]; exact Nat.le_refl _
    exact I1.fpOk hle (I1.hok.fresh hle)
/-- the items of two in new pairs -/
def ItZ (t u : Bool) (K : PySem.W.Frag) (a b : Addr) : It :=
  ⟨fun i H => ∃ xs ys : List V, (i < xs.length ∧ i < ys.length) ∧ SqB t K H a xs ∧ SqB u K H b ys,
    fun i H v H' => ∃ T x y, v = .ref T ∧ H T = none ∧ H' = upd H T (.tup [x, y]) ∧ (∀ xs, SqB t K H a xs → xs[i]? = some x) ∧ ∀ ys, SqB u K H b ys → ys[i]? = some y,
    fun i H => ∃ xs ys : List V, i = min xs.length ys.length ∧ SqB t K H a xs ∧ SqB u K H b ys⟩
theorem turn_zipB {P : Program} {w : World} {K : PySem.W.Frag} {elts : List Expr} {kk : Nat} {tpos : Pos} (t u : Bool) {a b z TI TO i1 i2 : Addr} (D : ZipSep2 z TI TO i1 i2 [i1, a] [i2, b]) (na : a ≠ i1) (nb : b ≠ i2) :
    Turn P w K (.Tuple elts kk tpos) (ItZ t u K a b) [z, TI, TO, i1, i2] z (fun i h => IsZip h z TI TO .none ∧ IsTupOf2 h TI (.ref i1) (.ref i2) ∧ (∃ x y, IsTupOf2 h TO x y) ∧ ItrB t h i1 a i ∧ ItrB u h i2 b i) where
  mem := by simp
  obj := fun i h st c hc => by
    obtain ⟨hz, hTI, ⟨x, y, hTO⟩, q1, q2⟩ := st
    have e' : c = z ∨ c = TI ∨ c = TO ∨ c = i1 ∨ c = i2 := by simpa using hc
    rcases e' with q | q | q | q | q
    · rw [q]; exact ⟨_, hz, fun v q => nomatch q⟩
    · rw [q]; exact ⟨_, hTI, fun v q => nomatch q⟩
    · rw [q]; exact ⟨_, hTO, fun v q => nomatch q⟩
    · rw [q]; exact itrB_obj q1
    · rw [q]; exact itrB_obj q2
  keep := fun i h h' st k => by
    obtain ⟨hz, hTI, ⟨x, y, hTO⟩, h1, h2⟩ := st
    exact ⟨k z (by simp) _ hz, k TI (by simp) _ hTI, ⟨x, y, k TO (by simp) _ hTO⟩, itrB_at h1 fun o q => k i1 (by simp) o q, itrB_at h2 fun o q => k i2 (by simp) o q⟩
  item := by
    intro X hP hw hK hc i pins s σ H E I hf st hg
    subst hP hw hK
    obtain ⟨hz, hTI, ⟨x0, y0, hTO⟩, h1, h2⟩ := st
    obtain ⟨xs, ys, ⟨hx, hy⟩, hqx, hqy⟩ := hg
    obtain ⟨its, rv, p⟩ := inv_seqB I hqx
    obtain ⟨its2, rv2, p2⟩ := inv_seqB I hqy
    have hxi : xs[i]? = some xs[i] := List.getElem?_eq_getElem hx
    have hyi : ys[i]? = some ys[i] := List.getElem?_eq_getElem hy
    obtain ⟨v1, hu, ru⟩ := rv.get hxi
    obtain ⟨v2, hu2, ru2⟩ := rv2.get hyi
    have hzl : z < s.heap.objs.size := Heap.lt_size hz
    have l1 := rv.length
    have l2 := rv2.length
    have D1 := drawsB (prog := X.prog) (w := X.w) (A := X.A.in1) t (I.ok.hd hc) i1 a na its.toArray
    have D2 := drawsB (prog := X.prog) (w := X.w) (A := X.A.in1) u (I.ok.hd hc) i2 b nb its2.toArray
    refine wpAny_pyNext_zipD2_item D D1 D2 hz hTI hTO ⟨h1, p⟩ ⟨h2, p2⟩ (by simp; omega) (by simp; omega) fun x1 x2 h' tk hP1 hP2 z' TO' st1' st2' hT hsz hk => ?_
    have e1 : x1 = v1 := Option.some.inj (hP1.symm.trans (show its.toArray[i]? = some v1 by simpa using hu))
    have e2 : x2 = v2 := Option.some.inj (hP2.symm.trans (show its2.toArray[i]? = some v2 by simpa using hu2))
    subst e1 e2
    refine ⟨_, rfl, wpAny_letOwnedTupleGo_zip (s := { s with heap := h', toks := tk }) z' fun h'' z'' sb => ?_⟩
    have hT2 : h''.get? s.heap.objs.size = some { cls := .type "tuple", data := .seq #[x1, x2] } := (sb.2 _ (Nat.ne_of_gt hzl)).trans hT
    have new : ObjOk X.prog X.w (upd H s.heap.objs.size (.tup [xs[i], ys[i]])) h'' s.heap.objs.size (.tup [xs[i], ys[i]]) :=
      ⟨by show 2 ≤ sizeLine; decide, [x1, x2], .cons ru (.cons ru2 .nil), ⟨_, hT2, rfl, _, rfl⟩⟩
    have I1 : Inv X pins σ (upd H s.heap.objs.size (.tup [xs[i], ys[i]])) { s with heap := h'', toks := tk } :=
      I.turnedNew (t' := tk) (ch := [z, TI, TO, i1, i2]) (fun c o hb q => (sb.2 c (fun q' => hb (by simp [q']))).trans (hk c o (fun q' => hb (by simp [q'])) (fun q' => hb (by simp [q'])) (fun q' => hb (by simp [q'])) (fun q' => hb (by simp [q'])) q)) hf (Nat.le_refl _) new
    refine ⟨.ref s.heap.objs.size, _, I1, rfl, ⟨_, xs[i], ys[i], rfl, I.hok.fresh (Nat.le_refl _), rfl, fun zs hz => by rw [inv_injB I hz hqx]; exact hxi, fun zs hz => by rw [inv_injB I hz hqy]; exact hyi⟩, ⟨z'', ?_, ⟨x1, x2, ?_⟩, ?_, ?_⟩, fun c hcm => ?_⟩
    · exact (sb.2 _ D.TIz).trans (hk _ _ D.TIz D.TITO D.TIi1 D.TIi2 hTI)
    · exact (sb.2 _ D.TOz).trans TO'
    · exact itrB_at st1'.1 fun o q => (sb.2 _ (Ne.symm D.zi1)).trans q
    · exact itrB_at st2'.1 fun o q => (sb.2 _ (Ne.symm D.zi2)).trans q
    · have hlt : c < s.heap.objs.size := by
        have e' : c = z ∨ c = TI ∨ c = TO ∨ c = i1 ∨ c = i2 := by simpa using hcm
        rcases e' with q | q | q | q | q
        · rw [q]; exact hzl
        · rw [q]; exact Heap.lt_size hTI
        · rw [q]; exact Heap.lt_size hTO
        · rw [q]; obtain ⟨_, e1, _⟩ := itrB_obj h1; exact Heap.lt_size e1
        · rw [q]; obtain ⟨_, e2, _⟩ := itrB_obj h2; exact Heap.lt_size e2
      rw [upd_ne (Nat.ne_of_lt hlt)]
      exact (hf c hcm).1
  done := by
    intro X hP hw hK hc i pins s σ H E I hf st hg
    subst hP hw hK
    obtain ⟨hz, hTI, ⟨x0, y0, hTO⟩, h1, h2⟩ := st
    obtain ⟨xs, ys, hend, hqx, hqy⟩ := hg
    obtain ⟨its, rv, p⟩ := inv_seqB I hqx
    obtain ⟨its2, rv2, p2⟩ := inv_seqB I hqy
    have l1 := rv.length
    have l2 := rv2.length
    have D1 := drawsB (prog := X.prog) (w := X.w) (A := X.A.in1) t (I.ok.hd hc) i1 a na its.toArray
    have D2 := drawsB (prog := X.prog) (w := X.w) (A := X.A.in1) u (I.ok.hd hc) i2 b nb its2.toArray
    exact wpAny_pyNext_zipD2_end D D1 D2 hz hTI hTO ⟨h1, p⟩ ⟨h2, p2⟩ (by simp; omega) (by simp; omega) (by simp; omega) fun h' tk hk => ⟨rfl, I.turnedL (t' := tk) (ch := [z, TI, TO, i1, i2]) (fun c o hb q =>
      hk c o (fun q' => hb (by simp [q'])) (fun q' => hb (by simp [q'])) (fun q' => hb (by simp [q'])) (fun q' => hb (by simp [q'])) q) hf⟩
  self := fun A i s Q E st h => wpAny_pyIter_zip st.1 h
def iZipB (K : PySem.W.Frag) (ta : TA) : TI := fun σ H R => ta σ H fun vs H1 => ∃ t u a b xs ys, vs = [.ref a, .ref b] ∧ SqB t K H1 a xs ∧ SqB u K H1 b ys ∧ R (ItZ t u K a b) H1
theorem pi_zipB {X : Cx} {e e2 : Expr} {ta : TA} {p pos tpos : Pos} {elts : List Expr} {kk : Nat} (hg : Gl X "zip") (hm : X.mg "zip" = none) (ha : PA X [e, e2] ta)
    (hs : starEach [e, e2] X.env = (false, eval e X.env) :: starEach [e2] X.env := by rfl) (hpl : (backTo pos (starEach [e2] X.env)).any (·.1) = false := by rfl) :
    PI X (.Tuple elts kk tpos) (.Call (.Name "zip" p) [e, e2] [] pos) (iZipB X.K ta) := by
  refine ⟨fun pins s σ H R I h => ?_⟩
  refine Call_ (ld_blt I hg hm PyProof.Rows.boot_zip (PyProof.Rows.callWith_type1 (thn (ha.run pos pins s σ H _ I h) fun us s1 ⟨vs, H1, I1, r1, q1⟩ => ?_) hs hpl))
  obtain ⟨t, u, a, b, xs, ys, ex, hqx, hqy, q⟩ := q1
  subst ex
  cases r1 with
  | cons r rr =>
    cases rr with
    | cons r' rr =>
      cases rr
      cases r
      cases r'
      obtain ⟨its, rv, p1⟩ := inv_seqB I1 hqx
      obtain ⟨its2, rv2, p2⟩ := inv_seqB I1 hqy
      have la := srcB_lt p1
      have lb := srcB_lt p2
      refine zip_begins2 (begB t a its.toArray) (begB u b its2.toArray) p1 p2 fun h' hz hTI hTO h1 h2 hsz hk => wpAny_pyIter_zip hz ?_
      have I2 : Inv X pins σ H1 { s1 with heap := h' } := I1.kept (t' := s1.toks) hk
      have sep := zip_sep2 (N := s1.heap.objs.size) (fp1 := [a]) (fp2 := [b]) (by simpa using la) (by simpa using lb)
      refine ⟨s1.heap.objs.size + 4, [s1.heap.objs.size + 4, s1.heap.objs.size + 2, s1.heap.objs.size + 3, s1.heap.objs.size, s1.heap.objs.size + 1], _, _, H1, rfl, I2, turn_zipB t u sep (Nat.ne_of_lt la) (Nat.ne_of_lt (Nat.lt_succ_of_lt lb)), ⟨hz, hTI, ⟨_, _, hTO⟩, itrB_new h1, itrB_new h2⟩, fun c hcm => ?_, q⟩
      have e' : c = s1.heap.objs.size + 4 ∨ c = s1.heap.objs.size + 2 ∨ c = s1.heap.objs.size + 3 ∨ c = s1.heap.objs.size ∨ c = s1.heap.objs.size + 1 := by simpa using hcm
      have hle : s1.heap.objs.size ≤ c := by
        rcases e' with z | z | z | z | z
        · rw [z]; exact Nat.le_add_right _ _
        · rw [z]; exact Nat.le_add_right _ _
        · rw [z]; exact Nat.le_add_right _ _
        · rw [z]; exact Nat.le_refl _
        · rw [z]; exact Nat.le_add_right _ _
      exact I1.fpOk hle (I1.hok.fresh hle)
/-! over states -/
section
variable {K : PySem.W.Frag} [HasTabs K] {E : XK} {tas : TA} {ρ : Rh} {P : EPost}
/-- a data sequence: its kind, its items -/
def Dat.seq : Dat → Option (Bool × List Dat)
  | .lst ds => some (false, ds)
  | .tup ds => some (true, ds)
  | _ => none
theorem den_seq {D H : Hp} {v : V} {x : Dat} {t : Bool} {ds : List Dat} (e : x.seq = some (t, ds)) (ex : Ex D H) (h : Den K D v x) : ∃ a xs, v = .ref a ∧ SqB t K H a xs ∧ DenAll K D xs ds := by
  cases h with
  | lst g1 g2 =>
    simp [Dat.seq] at e
    obtain ⟨rfl, rfl⟩ := e
    exact ⟨_, _, rfl, SqL.of (ex _ _ g1), g2⟩
  | tup g1 g2 =>
    simp [Dat.seq] at e
    obtain ⟨rfl, rfl⟩ := e
    exact ⟨_, _, rfl, SqT.of (ex _ _ g1), g2⟩
  | _ => cases e
def enumD (ds : List Dat) : List Dat := ds.mapIdx fun i d => .tup [.int (i : Int), d]
theorem enumD_len (ds : List Dat) : (enumD ds).length = ds.length := by unfold enumD; simp
theorem enumD_get {ds : List Dat} {i : Nat} {d : Dat} (h : ds[i]? = some d) : (enumD ds)[i]? = some (.tup [.int (i : Int), d]) := by unfold enumD; simp [h]
theorem iv_enum {Pi : List Dat → List Ow → Rh → Prop} (h : AvP K E tas ρ (fun os ρ1 => ∃ x t ds, os = [.d x] ∧ x.seq = some (t, ds) ∧ Pi (enumD ds) [.d x] ρ1) P) : IvP K E (iEnumB K tas) ρ Pi P := by
  intro D H T σ R s k xo
  refine h D H T σ _ s (fun vs os ρ1 D1 H1 q1 e1 s1 => ?_) (xo.sub0 fun _ _ _ z => z)
  obtain ⟨x, t, ds, rfl, e, q⟩ := q1
  match vs, e1 with
  | [v], _ =>
    have rd : ∀ D2 H2, Ex D2 H2 → DenO K D2 H2 v (.d x) → ∃ a xs, v = .ref a ∧ SqB t K H2 a xs ∧ DenAll K D2 xs ds := fun D2 H2 e2 g => by
      cases g with
      | d g => exact den_seq e e2 g
    obtain ⟨a, xs, rfl, hS, hA⟩ := rd D1 H1 s1.ex (s1.tm (v, _) List.mem_cons_self)
    refine ⟨t, a, xs, rfl, hS, k (ItE t K a) [(.ref a, .d x)] _ ρ1 D1 H1 q (fun D2 H2 e2 g => ?_) s1⟩
    obtain ⟨b, ws, eb, hS2, hA2⟩ := rd D2 H2 e2 (g _ List.mem_cons_self)
    cases eb
    have hl := hA2.length
    rw [enumD_len]
    refine ⟨fun i hi => ⟨ws, by omega, hS2⟩, ⟨ws, hl.symm, hS2⟩, fun i y H' hi hy => ?_⟩
    obtain ⟨T', z, rfl, hT, rfl, hz⟩ := hy
    obtain ⟨d, h1, h2⟩ := hA2.getv (hz ws hS2)
    exact ⟨_, enumD_get h1, .inr ⟨T', _, _, rfl, hT, rfl, rfl, .cons (.int _) (.cons h2 .nil)⟩⟩
def zipD (ds es : List Dat) : List Dat := (ds.zip es).map fun p => .tup [p.1, p.2]
theorem zipD_len (ds es : List Dat) : (zipD ds es).length = min ds.length es.length := by unfold zipD; simp
theorem zipD_get {ds es : List Dat} {i : Nat} {d e : Dat} (h : ds[i]? = some d) (h2 : es[i]? = some e) : (zipD ds es)[i]? = some (.tup [d, e]) := by
  unfold zipD
  obtain ⟨l1, e1⟩ := List.getElem?_eq_some_iff.mp h
  obtain ⟨l2, e2⟩ := List.getElem?_eq_some_iff.mp h2
  have z : (ds.zip es)[i]? = some (d, e) := List.getElem?_zip_eq_some.mpr ⟨h, h2⟩
  rw [List.getElem?_map, z]
  rfl
theorem iv_zip {Pi : List Dat → List Ow → Rh → Prop} (h : AvP K E tas ρ (fun os ρ1 => ∃ x y t u ds es, os = [.d x, .d y] ∧ x.seq = some (t, ds) ∧ y.seq = some (u, es) ∧ Pi (zipD ds es) [.d x, .d y] ρ1) P) : IvP K E (iZipB K tas) ρ Pi P := by
  intro D H T σ R s k xo
  refine h D H T σ _ s (fun vs os ρ1 D1 H1 q1 e1 s1 => ?_) (xo.sub0 fun _ _ _ z => z)
  obtain ⟨x, y, t, u, ds, es, rfl, e, f, q⟩ := q1
  match vs, e1 with
  | [v, w], _ =>
    have rd : ∀ D2 H2, Ex D2 H2 → DenO K D2 H2 v (.d x) → ∃ a xs, v = .ref a ∧ SqB t K H2 a xs ∧ DenAll K D2 xs ds := fun D2 H2 e2 g => by
      cases g with
      | d g => exact den_seq e e2 g
    have rd2 : ∀ D2 H2, Ex D2 H2 → DenO K D2 H2 w (.d y) → ∃ a xs, w = .ref a ∧ SqB u K H2 a xs ∧ DenAll K D2 xs es := fun D2 H2 e2 g => by
      cases g with
      | d g => exact den_seq f e2 g
    obtain ⟨a, xs, rfl, hS, hA⟩ := rd D1 H1 s1.ex (s1.tm (v, _) List.mem_cons_self)
    obtain ⟨b, ys, rfl, hS', hA'⟩ := rd2 D1 H1 s1.ex (s1.tm (w, _) (List.mem_cons_of_mem _ List.mem_cons_self))
    refine ⟨t, u, a, b, xs, ys, rfl, hS, hS', k (ItZ t u K a b) [(.ref a, .d x), (.ref b, .d y)] _ ρ1 D1 H1 q (fun D2 H2 e2 g => ?_) s1⟩
    obtain ⟨c, ws, eb, hS2, hA2⟩ := rd D2 H2 e2 (g _ List.mem_cons_self)
    cases eb
    obtain ⟨c', ws', eb', hS2', hA2'⟩ := rd2 D2 H2 e2 (g _ (List.mem_cons_of_mem _ List.mem_cons_self))
    cases eb'
    have hl := hA2.length
    have hl' := hA2'.length
    rw [zipD_len]
    refine ⟨fun i hi => ⟨ws, ws', by omega, hS2, hS2'⟩, ⟨ws, ws', by omega, hS2, hS2'⟩, fun i y H' hi hy => ?_⟩
    obtain ⟨T', z1, z2, rfl, hT, rfl, hz1, hz2⟩ := hy
    obtain ⟨d1, h1, h2⟩ := hA2.getv (hz1 ws hS2)
    obtain ⟨d2, h3, h4⟩ := hA2'.getv (hz2 ws' hS2')
    exact ⟨_, zipD_get h1 h3, .inr ⟨T', _, _, rfl, hT, rfl, rfl, .cons h2 (.cons h4 .nil)⟩⟩
end
end DL

/-! ### F. built-ins, operators, methods -/
namespace DL
open PySem L2 Evl PySem.Spec PyProof.Rows
/-! data as the library's data -/
mutual
def Dat.py : Dat → PyData
  | .non => .none
  | .bl b => .bool b
  | .int i => .int i
  | .str s => .str s
  | .lst xs => .list (pys xs)
  | .tup xs => .tuple (pys xs)
  | _ => .none
def pys : List Dat → List PyData
  | [] => []
  | x :: xs => x.py :: pys xs
end
mutual
def Dat.pure : Dat → Bool
  | .lst xs => pures xs
  | .tup xs => pures xs
  | .obj _ _ => false
  | .ty _ => false
  | .scr _ => false
  | _ => true
def pures : List Dat → Bool
  | [] => true
  | x :: xs => x.pure && pures xs
end
mutual
theorem Den.dp {K : PySem.W.Frag} [HasTabs K] {H : Hp} : ∀ {v : V} {d : Dat}, Den K H v d → d.pure = true → Dp K H v d.py
  | _, _, .non, _ => .non
  | _, _, .bl b, _ => .bl b
  | _, _, .int i, _ => .int i
  | _, _, .str x, _ => .str x
  | _, _, .lst h r, k => .lst (SqL.of h) (DenAll.dp r (by unfold Dat.pure at k; exact k))
  | _, _, .tup h r, k => .tup (SqT.of h) (DenAll.dp r (by unfold Dat.pure at k; exact k))
  | _, _, .obj _ _, k => by cases k
  | _, _, .ty _, k => by cases k
  | _, _, .scr _, k => by cases k
theorem DenAll.dp {K : PySem.W.Frag} [HasTabs K] {H : Hp} : ∀ {v : List V} {d : List Dat}, DenAll K H v d → pures d = true → DpAll K H v (pys d)
  | _, _, .nil, _ => .nil
  | _, _, .cons h r, k => by
    unfold pures at k
    rw [Bool.and_eq_true] at k
    exact .cons (Den.dp h k.1) (DenAll.dp r k.2)
end
section
variable {K : PySem.W.Frag} [HasTabs K] {E : XK} {te ta tb tj : TE} {tt tu : TT} {tas : TA} {ts tw : TS} {ρ : Rh} {P P' : EPost} {S : SPost} {D D' H H' : Hp} {T : Tm} {σ : L2.St} {v : V} {o : Ow} {i : Nat} {a p : Addr}
/-! types -/
def Dat.tyn : Dat → Option String
  | .non => some "NoneType"
  | .bl _ => some "bool"
  | .int _ => some "int"
  | .str _ => some "str"
  | .lst _ => some "list"
  | .tup _ => some "tuple"
  | _ => none
theorem Den.tyx {x : Dat} {n : String} (h : Den K H v x) (e : x.tyn = some n) : TyX K H v (.type n) := by
  cases h with
  | non => cases e; exact .base .non
  | bl b => cases e; exact .base (.bl b)
  | int i => cases e; exact .base (.int i)
  | str s => cases e; exact .base (.str s)
  | lst h r => cases e; exact .base (.lst h)
  | tup h r => cases e; exact .base (.tup h)
  | obj h r => cases e
  | ty n => cases e
  | scr h => cases e
theorem acb_isi {x : Dat} {n m : String} {r : Bool} (e : x.tyn = some n) (k : kitB n m = some r) : ACb K (rIsi K) [x, .ty m] (.bl r) := ⟨rfl, fun H vs Q h q => by
  cases h with
  | cons h1 h =>
    cases h with
    | cons h2 h =>
      cases h
      cases h2
      exact ⟨_, _, _, _, r, rfl, .ty m, h1.tyx e, kit_ty k, q⟩⟩
theorem acb_isiT {x : Dat} {n m1 m2 : String} {r1 r2 : Bool} (e : x.tyn = some n) (k1 : kitB n m1 = some r1) (k2 : kitB n m2 = some r2) : ACb K (rIsiT K) [x, .tup [.ty m1, .ty m2]] (.bl (r1 || r2)) := ⟨rfl, fun H vs Q h q => by
  cases h with
  | cons h1 h =>
    cases h with
    | cons h2 h =>
      cases h
      cases h2 with
      | tup g1 g2 =>
        cases g2 with
        | cons a1 g2 =>
          cases g2 with
          | cons a2 g2 =>
            cases g2
            cases a1
            cases a2
            refine ⟨_, _, _, _, [.type m1, .type m2], r1 || r2, rfl, g1, .cons (.ty m1) (.cons (.ty m2) .nil), h1.tyx e, ?_, q⟩
            refine kitAny_cons (kit_ty k1) (fun z => ?_) (fun z => by rw [z]; rfl)
            rw [z]
            refine kitAny_cons (kit_ty k2) (fun y => ?_) (fun y => by rw [y]; rfl)
            rw [y]
            exact kitAny_nil⟩
/-! lists and tuples -/
abbrev rLenQ (K : PySem.W.Frag) : List V → Hp → VK → Prop := fun xs H Q => ∃ p ys, xs = [.ref p] ∧ (SqL K H p ys ∨ SqT K H p ys) ∧ Q (.int ys.length) H
theorem acb_len {x : Dat} {t : Bool} {ds : List Dat} (e : x.seq = some (t, ds)) : ACb K (rLenQ K) [x] (.int ds.length) := ⟨rfl, fun H vs Q h q => by
  cases h with
  | cons h1 h =>
    cases h
    obtain ⟨a, xs, rfl, g1, g2⟩ := den_seq e (Ex.refl H) h1
    refine ⟨a, xs, rfl, ?_, by rw [g2.length]; exact q⟩
    cases t
    · exact .inl g1
    · exact .inr g1⟩
theorem acb_lenS {ns : List Int} : ACb K (rLenQ K) [.scr ns] (.int ns.length) := ⟨rfl, fun H vs Q h q => by
  cases h with
  | cons h1 h =>
    cases h
    cases h1 with
    | scr g => exact ⟨_, _, rfl, .inl g, by rw [List.length_map]; exact q⟩⟩
theorem acb_sum {ns : List Int} : ACb K (rSum K) [.lst (ns.map Dat.int)] (.int ns.sum) := ⟨rfl, fun H vs Q h q => by
  cases h with
  | cons h1 h =>
    cases h
    cases h1 with
    | lst g1 g2 =>
      rw [g2.ints] at g1
      exact ⟨_, ns, rfl, SqL.of g1, q⟩⟩
theorem acb_all {bs : List Bool} : ACb K (rAll K) [.lst (bs.map Dat.bl)] (.bl (bs.all id)) := ⟨rfl, fun H vs Q h q => by
  cases h with
  | cons h1 h =>
    cases h
    cases h1 with
    | lst g1 g2 =>
      rw [g2.bools] at g1
      exact ⟨_, bs, rfl, SqL.of g1, q⟩⟩
theorem acb_gcd {a b : Int} : ACb K rGcd [.int a, .int b] (.int ((Nat.gcd a.natAbs b.natAbs : Nat) : Int)) := ⟨rfl, fun H vs Q h q => by
  cases h with
  | cons h1 h =>
    cases h with
    | cons h2 h =>
      cases h; cases h1; cases h2
      exact ⟨a, b, rfl, q⟩⟩
def rLcm : List V → Hp → VK → Prop := fun vs H Q => ∃ a b : Int, vs = [.int a, .int b] ∧ a.natAbs < 2 ^ 64 ∧ b.natAbs < 2 ^ 64 ∧ Q (.int ((Nat.lcm a.natAbs b.natAbs : Nat) : Int)) H
theorem cr_lcm {X : Cx} : CallR X (.builtin "math.lcm") rLcm := by
  intro pins s σ H vs us Q I r h
  obtain ⟨a, b, rfl, ha, hb, q⟩ := h
  obtain ⟨t, u, rfl⟩ := Vals.int2 r
  exact PySem.W.mc_lcm ha hb fun _ => ⟨.int _, H, I.tok _, ⟨_, rfl⟩, q⟩
theorem acb_lcm {a b : Int} (ha : a.natAbs < 2 ^ 64) (hb : b.natAbs < 2 ^ 64) : ACb K rLcm [.int a, .int b] (.int ((Nat.lcm a.natAbs b.natAbs : Nat) : Int)) := ⟨rfl, fun H vs Q h q => by
  cases h with
  | cons h1 h =>
    cases h with
    | cons h2 h =>
      cases h; cases h1; cases h2
      exact ⟨a, b, rfl, ha, hb, q⟩⟩
abbrev rAbs : List V → Hp → VK → Prop := fun xs H Q => ∃ i, xs = [.int i] ∧ Q (.int (if i < 0 then -i else i)) H
theorem acb_abs {i : Int} : ACb K rAbs [.int i] (.int (if i < 0 then -i else i)) := ⟨rfl, fun H vs Q h q => by
  cases h with
  | cons h1 h => cases h; cases h1; exact ⟨i, rfl, q⟩⟩
abbrev rInt1 : List V → Hp → VK → Prop := fun xs H Q => (∃ i, xs = [.int i] ∧ Q (.int i) H) ∨ ∃ k, xs = [.bl k] ∧ Q (.int (if k then 1 else 0)) H
theorem acb_int {i : Int} : ACb K rInt1 [.int i] (.int i) := ⟨rfl, fun H vs Q h q => by
  cases h with
  | cons h1 h => cases h; cases h1; exact .inl ⟨i, rfl, q⟩⟩
/-- list(x): data, or owned -/
abbrev rListO (K : PySem.W.Frag) : List V → Hp → VK → Prop := fun xs H Q => ∃ p ys, xs = [.ref p] ∧ (SqL K H p ys ∨ SqT K H p ys) ∧ ∀ l, H l = none → Q (.ref l) (upd H l (.lst ys))
abbrev rTupO (K : PySem.W.Frag) : List V → Hp → VK → Prop := fun xs H Q => ∃ p ys, xs = [.ref p] ∧ ((SqL K H p ys ∧ ∀ l, H l = none → Q (.ref l) (upd H l (.tup ys))) ∨ (SqT K H p ys ∧ Q (.ref p) H))
/-- what a state tells of a temporary that is a sequence of data, owned or not -/
def Ow.sq : Ow → Option (Bool × List Dat)
  | .d x => x.seq
  | _ => none
inductive SqO : Ow → Bool → List Dat → Prop
  | d {x : Dat} {t : Bool} {ds : List Dat} : x.seq = some (t, ds) → SqO (.d x) t ds
  | l {a : Addr} {ds : List Dat} : SqO (.l a (ds.map Ow.d)) false ds
theorem SqO.rd {t : Bool} {ds : List Dat} (q : SqO o t ds) (ex : Ex D H) (h : DenO K D H v o) : ∃ a xs, v = .ref a ∧ SqB t K H a xs ∧ DenAll K D xs ds := by
  cases q with
  | d e =>
    cases h with
    | d h => exact den_seq e ex h
  | l =>
    cases h with
    | l g1 g2 => exact ⟨_, _, rfl, SqL.of g1, g2.toAll⟩
theorem sqB_or {t : Bool} {xs : List V} (h : SqB t K H a xs) : SqL K H a xs ∨ SqT K H a xs := by
  cases t
  · exact .inl h
  · exact .inr h
theorem ev_list (h : AvP K E tas ρ (fun os ρ1 => ∃ x t ds, os = [x] ∧ SqO x t ds ∧ ds.length ≤ 100000 ∧ (∀ b, P (.ok (.l b (ds.map Ow.d))) (bk x ρ1))) P) : EvP K E (tCB (rListO K) tas) ρ P := by
  intro D H T σ Q s k xo
  refine h D H T σ _ s (fun vs os ρ1 D1 H1 q1 e1 s1 => ?_) (xo.sub0 fun _ _ _ z => z)
  obtain ⟨x, t, ds, rfl, q, hl, hp⟩ := q1
  match vs, e1 with
  | [v], _ =>
    obtain ⟨b, xs, rfl, g1, g2⟩ := q.rd s1.ex (s1.tm (v, _) List.mem_cons_self)
    refine ⟨b, xs, rfl, sqB_or g1, fun l hl => ?_⟩
    have s2 : Sd K D1 H1 T σ (bk x ρ1) := Sd.bk (v := V.ref b) (o := x) s1
    have s3 : Sd K D1 H1 (xs.zip (ds.map Ow.d) ++ T) σ (bk x ρ1) := by
      have fz : fpT (xs.zip (ds.map Ow.d)) = [] := by rw [fpT_zip (by rw [List.length_map]; exact g2.length), fps_map]
      refine ⟨s2.ex, fun p hp => ?_, s2.sl, by rw [fpT_app, fz]; exact s2.nd, by rw [fpT_app, fz]; exact s2.out, s2.tb⟩
      rcases List.mem_append.mp hp with z | z
      · have : ∀ {vs : List V} {ds : List Dat}, DenAll K D1 vs ds → ∀ p ∈ vs.zip (ds.map Ow.d), DenO K D1 H1 p.1 p.2 := by
          intro vs
          induction vs with
          | nil => intro ds g p hp; simp at hp
          | cons w vs ih =>
            intro ds g p hp
            cases g with
            | cons r t =>
              rcases List.mem_cons.mp (show p ∈ (w, Ow.d _) :: vs.zip _ from hp) with z | z
              · subst z; exact .d r
              · exact ih t p z
        exact this g2 p z
      · exact s2.tm p z
    exact k _ _ _ _ _ (hp l) (s3.own (by rw [List.length_map]; exact g2.length) hl)
/-- tuple(x) of data (owned or not) -/
theorem ev_tuple (h : AvP K E tas ρ (fun os ρ1 => ∃ x t ds, os = [x] ∧ SqO x t ds ∧ P (.ok (.d (.tup ds))) (bk x ρ1)) P) : EvP K E (tCB (rTupO K) tas) ρ P := by
  intro D H T σ Q s k xo
  refine h D H T σ _ s (fun vs os ρ1 D1 H1 q1 e1 s1 => ?_) (xo.sub0 fun _ _ _ z => z)
  obtain ⟨x, t, ds, rfl, q, hp⟩ := q1
  match vs, e1 with
  | [v], _ =>
    have hv := s1.tm (v, _) List.mem_cons_self
    obtain ⟨b, xs, rfl, g1, g2⟩ := q.rd s1.ex hv
    have s2 : Sd K D1 H1 T σ (bk x ρ1) := Sd.bk (v := V.ref b) (o := x) s1
    cases t with
    | false => exact ⟨b, xs, rfl, .inl ⟨g1, fun l hl => k _ _ _ _ _ hp ((s2.new hl _).push (.tup upd_same (g2.mono (Ex.new (s2.dnone hl)))))⟩⟩
    | true =>
      refine ⟨b, xs, rfl, .inr ⟨g1, k _ _ _ _ _ hp (s2.push ?_)⟩⟩
      cases q with
      | d e =>
        cases hv with
        | d hv =>
          cases hv with
          | tup a1 a2 => simp [Dat.seq] at e; subst e; exact .tup a1 a2
          | lst a1 a2 => simp [Dat.seq] at e
          | _ => cases e
/-- x[j] of data -/
theorem ev_ixG {r : R2} {t : Bool} (hr : ∀ p xs j (w : V) H (Q : VK), SqB t K H p xs → atI xs j = some w → Q w H → r (.ref p) (.int j) H Q)
    (h : EvP K E ta ρ (bnd (fun x ρ1 => EvP K E tb ρ1 (bnd (fun y ρ2 => ∃ ds j z, SqO x t ds ∧ y = .d (.int j) ∧ atI ds j = some z ∧ P (.ok (.d z)) (bk x ρ2)) P)) P)) : EvP K E (tOp r ta tb) ρ P := by
  intro D H T σ Q s k xo
  refine h D H T σ _ s (fun v x ρ1 D1 H1 q1 s1 => ?_) (xo.sub0 fun _ _ _ z => z)
  refine q1 D1 H1 _ σ _ s1 (fun w y ρ2 D2 H2 q2 s2 => ?_) (xo.sub1 fun _ _ _ z => z)
  obtain ⟨ds, j, z, q, rfl, e, hp⟩ := q2
  obtain ⟨b, xs, rfl, g1, g2⟩ := q.rd s2.ex (s2.tm (v, x) (List.mem_cons_of_mem _ List.mem_cons_self))
  have hy := s2.tm (w, _) List.mem_cons_self
  cases hy with
  | d hy =>
    cases hy
    have e2 : ∃ u, atI xs j = some u ∧ Den K D2 u z := by
      unfold atI at e ⊢
      rw [g2.length]
      cases hj : ixN ds.length j with
      | none => rw [hj] at e; cases e
      | some n =>
        rw [hj] at e
        obtain ⟨u, h1, h2⟩ := g2.get (show ds[n]? = some z from e)
        exact ⟨u, h1, h2⟩
    obtain ⟨u, h1, h2⟩ := e2
    exact hr _ _ _ _ _ _ g1 h1 (k _ _ _ D2 H2 hp ((s2.pop.bk).push h2))
theorem ev_ixL (h : EvP K E ta ρ (bnd (fun x ρ1 => EvP K E tb ρ1 (bnd (fun y ρ2 => ∃ ds j z, SqO x false ds ∧ y = .d (.int j) ∧ atI ds j = some z ∧ P (.ok (.d z)) (bk x ρ2)) P)) P)) : EvP K E (tOp (rIxL K) ta tb) ρ P :=
  ev_ixG (t := false) (fun p xs j w H Q h1 h2 h3 => ⟨p, xs, j, w, rfl, rfl, h1, h2, h3⟩) h
theorem ev_ixT (h : EvP K E ta ρ (bnd (fun x ρ1 => EvP K E tb ρ1 (bnd (fun y ρ2 => ∃ ds j z, SqO x true ds ∧ y = .d (.int j) ∧ atI ds j = some z ∧ P (.ok (.d z)) (bk x ρ2)) P)) P)) : EvP K E (tOp (rIxT K) ta tb) ρ P :=
  ev_ixG (t := true) (fun p xs j w H Q h1 h2 h3 => ⟨p, xs, j, w, rfl, rfl, h1, h2, h3⟩) h
/-- script[j] -/
theorem aop_scr {ns : List Int} {j : Int} {z : Int} (e : atI ns j = some z) : AOp K (rIxL K) (.scr ns) (.int j) (.int z) := ⟨rfl, fun H v w Q h1 h2 q => by
  cases h2
  cases h1 with
  | scr g =>
    refine ⟨_, _, j, .int z, rfl, rfl, g, ?_, q⟩
    unfold atI at e ⊢
    rw [List.length_map]
    cases hj : ixN ns.length j with
    | none => rw [hj] at e; cases e
    | some n =>
      rw [hj] at e
      show (ns.map V.int)[n]? = _
      rw [List.getElem?_map, show ns[n]? = some z from e]
      rfl⟩
/-- a + b of lists of data -/
theorem ev_cat (h : EvP K E ta ρ (bnd (fun x ρ1 => EvP K E tb ρ1 (bnd (fun y ρ2 => ∃ ds es, SqO x false ds ∧ SqO y false es ∧ ds.length + es.length ≤ 100000 ∧ P (.ok (.d (.lst (ds ++ es)))) (bk x (bk y ρ2))) P)) P)) : EvP K E (tOp rCat ta tb) ρ P := by
  intro D H T σ Q s k xo
  refine h D H T σ _ s (fun v x ρ1 D1 H1 q1 s1 => ?_) (xo.sub0 fun _ _ _ z => z)
  refine q1 D1 H1 _ σ _ s1 (fun w y ρ2 D2 H2 q2 s2 => ?_) (xo.sub1 fun _ _ _ z => z)
  obtain ⟨ds, es, qx, qy, hl, hp⟩ := q2
  have rd : ∀ {u : V} {o : Ow} {ds : List Dat}, SqO o false ds → DenO K D2 H2 u o → ∃ a xs, u = .ref a ∧ H2 a = some (.lst xs) ∧ DenAll K D2 xs ds := by
    intro u o ds q h
    cases q with
    | d e =>
      cases h with
      | d h =>
        cases h with
        | lst a1 a2 => simp [Dat.seq] at e; subst e; exact ⟨_, _, rfl, s2.ex _ _ a1, a2⟩
        | tup a1 a2 => simp [Dat.seq] at e
        | _ => cases e
    | l =>
      cases h with
      | l g1 g2 => exact ⟨_, _, rfl, g1, g2.toAll⟩
  obtain ⟨b, xs, rfl, g1, g2⟩ := rd qx (s2.tm (v, x) (List.mem_cons_of_mem _ List.mem_cons_self))
  obtain ⟨c, ys, rfl, g3, g4⟩ := rd qy (s2.tm (w, y) List.mem_cons_self)
  refine ⟨b, c, xs, ys, rfl, rfl, g1, g3, sz_of (by rw [g2.length, g4.length]; exact hl), fun l hl => ?_⟩
  have s3 := s2.bk.bk
  exact k _ _ _ _ _ hp ((s3.new hl _).push (.lst upd_same ((g2.app g4).mono (Ex.new (s3.dnone hl)))))
/-- a + b of tuples of data -/
theorem ev_catT (h : EvP K E ta ρ (bnd (fun x ρ1 => EvP K E tb ρ1 (bnd (fun y ρ2 => ∃ ds es, x = .d (.tup ds) ∧ y = .d (.tup es) ∧ ds.length + es.length ≤ 100000 ∧ P (.ok (.d (.tup (ds ++ es)))) ρ2) P)) P)) : EvP K E (tOp (rCatA K) ta tb) ρ P := by
  intro D H T σ Q s k xo
  refine h D H T σ _ s (fun v x ρ1 D1 H1 q1 s1 => ?_) (xo.sub0 fun _ _ _ z => z)
  refine q1 D1 H1 _ σ _ s1 (fun w y ρ2 D2 H2 q2 s2 => ?_) (xo.sub1 fun _ _ _ z => z)
  obtain ⟨ds, es, rfl, rfl, hl, hp⟩ := q2
  have hx := s2.tm (v, _) (List.mem_cons_of_mem _ List.mem_cons_self)
  have hy := s2.tm (w, _) List.mem_cons_self
  cases hx with
  | d hx =>
    cases hy with
    | d hy =>
      cases hx with
      | tup g1 g2 =>
        cases hy with
        | tup g3 g4 =>
          rename_i a1 xs a2 ys
          have s3 : Sd K D2 H2 T σ ρ2 := s2.pop.pop
          refine ⟨a1, a2, xs, ys, rfl, rfl, st_of (s2.ex _ _ g1), st_of (s2.ex _ _ g3), sz_of (by rw [g2.length, g4.length]; exact hl), fun e => ?_, fun e e2 => ?_, fun _ _ l hl => ?_⟩
          · subst e
            cases g2
            exact k _ _ _ D2 H2 hp (s3.push (.tup g3 g4))
          · subst e2
            cases g4
            exact k _ _ _ D2 H2 hp (s3.push (by rw [List.append_nil]; exact .tup g1 g2))
          · exact k _ _ _ _ _ hp ((s3.new hl _).push (.tup upd_same ((g2.app g4).mono (Ex.new (s3.dnone hl)))))
/-- [x] * n -/
theorem ev_rep (h : EvP K E ta ρ (bnd (fun x ρ1 => EvP K E tb ρ1 (bnd (fun y ρ2 => ∃ d j, x = .d (.lst [d]) ∧ y = .d (.int j) ∧ 0 ≤ j ∧ j ≤ 100000 ∧ P (.ok (.d (.lst (List.replicate j.toNat d)))) ρ2) P)) P)) : EvP K E (tOp rRep ta tb) ρ P := by
  intro D H T σ Q s k xo
  refine h D H T σ _ s (fun v x ρ1 D1 H1 q1 s1 => ?_) (xo.sub0 fun _ _ _ z => z)
  refine q1 D1 H1 _ σ _ s1 (fun w y ρ2 D2 H2 q2 s2 => ?_) (xo.sub1 fun _ _ _ z => z)
  obtain ⟨d, j, rfl, rfl, h0, hj, hp⟩ := q2
  have hx := s2.tm (v, _) (List.mem_cons_of_mem _ List.mem_cons_self)
  have hy := s2.tm (w, _) List.mem_cons_self
  cases hy with
  | d hy =>
    cases hy
    cases hx with
    | d hx =>
      cases hx with
      | lst g1 g2 =>
        cases g2 with
        | cons g2 gn =>
          cases gn
          rename_i a1 u
          have s3 : Sd K D2 H2 T σ ρ2 := s2.pop.pop
          refine ⟨a1, j, [u], rfl, rfl, s2.ex _ _ g1, by omega, by omega, sz_of (by simp; omega), ?_⟩
          intro l hl
          refine k _ _ _ _ _ hp ((s3.new hl _).push (.lst upd_same ?_))
          have e : ∀ n : Nat, DenAll K D2 ((List.replicate n [u]).flatten) (List.replicate n d) := by
            intro n
            induction n with
            | zero => exact .nil
            | succ n ih => exact .cons g2 ih
          exact (e _).mono (Ex.new (s3.dnone hl))
/-! == of data -/
theorem aop_eqD {x y : Dat} (hx : x.pure = true) (hy : y.pure = true) (sx : SeqAt.shaped x.py = true) (sy : SeqAt.shaped y.py = true) : AOp K (rEqD K) x y (.bl (PyData.eqv x.py y.py)) := ⟨rfl, fun H v w Q h1 h2 q =>
  ⟨_, _, h1.dp hx, h2.dp hy, sx, sy, q⟩⟩
theorem aop_neD {x y : Dat} (hx : x.pure = true) (hy : y.pure = true) (sx : SeqAt.shaped x.py = true) (sy : SeqAt.shaped y.py = true) : AOp K (rNeD K) x y (.bl (!PyData.eqv x.py y.py)) := ⟨rfl, fun H v w Q h1 h2 q =>
  ⟨_, _, h1.dp hx, h2.dp hy, sx, sy, q⟩⟩
theorem aop_inD {x : Dat} {ds : List Dat} (hx : x.pure = true) (hy : pures ds = true) (sx : SeqAt.shaped x.py = true) (sy : SeqAt.shaped (Dat.lst ds).py = true) : AOp K (rInD K) x (.lst ds) (.bl ((pys ds).any fun z => PyData.eqv z x.py)) := ⟨rfl, fun H v w Q h1 h2 q =>
  ⟨_, _, h1.dp hx, h2.dp (by unfold Dat.pure; exact hy), sx, sy, q⟩⟩
theorem aop_eqI {i j : Int} : AOp K rEq (.int i) (.int j) (.bl (decide (i = j))) := ⟨rfl, fun H v w Q h1 h2 q => by
  cases h1; cases h2
  refine ⟨rfl, ?_⟩
  have e : decide (V.int i = V.int j) = decide (i = j) := decide_eq_decide.mpr ⟨fun z => V.int.inj z, fun z => by rw [z]⟩
  rw [e]; exact q⟩
theorem aop_neI {i j : Int} : AOp K rNe (.int i) (.int j) (.bl (!decide (i = j))) := ⟨rfl, fun H v w Q h1 h2 q => by
  cases h1; cases h2
  refine ⟨rfl, ?_⟩
  have e : decide (V.int i = V.int j) = decide (i = j) := decide_eq_decide.mpr ⟨fun z => V.int.inj z, fun z => by rw [z]⟩
  rw [e]; exact q⟩
/-! repr -/
def rReprD (K : PySem.W.Frag) : List V → Hp → VK → Prop := fun vs H Q => ∃ v d, vs = [v] ∧ Dp K H v d ∧ d.showable = true ∧ d.hasDict = false ∧ d.shown.length ≤ sizeLine ∧ d.depth ≤ 64 ∧ Q (.str d.shown) H
end
end DL

/-! ### G. what changes owned things -/
namespace DL
open PySem L2 Evl PySem.Spec PyProof.Rows
section
variable {K : PySem.W.Frag} [HasTabs K] {E : XK} {te ta tb tj td ty tv tx : TE} {tt tu : TT} {tas : TA} {ts tw : TS} {ρ : Rh} {P P' : EPost} {S : SPost} {D D' H H' : Hp} {T : Tm} {σ : L2.St} {v : V} {o : Ow} {i : Nat} {a b p : Addr}
theorem fps_mid : ∀ {xs : List Ow} {j : Nat} {x : Ow} (y : Ow), xs[j]? = some x → y.fp = [] → (fps xs).Perm (x.fp ++ fps (xs.set j y))
  | [], _, _, _, e, _ => by simp at e
  | z :: r, 0, x, y, e, hy => by
    simp at e
    subst e
    show (z.fp ++ fps r).Perm (z.fp ++ (y.fp ++ fps r))
    rw [hy]
    exact List.Perm.refl _
  | z :: r, j + 1, x, y, e, hy => by
    have ih := fps_mid (xs := r) (j := j) (x := x) y (by simpa using e) hy
    show (z.fp ++ fps r).Perm (x.fp ++ (z.fp ++ fps (r.set j y)))
    refine (ih.append_left _).trans ?_
    rw [← List.append_assoc, ← List.append_assoc]
    exact List.perm_append_comm.append_right _
/-- an owned item of an owned list steps out .. -/
theorem Sd.focus {xs : List Ow} {j : Nat} (h : Sd K D H ((.ref a, .l a xs) :: T) σ ρ) (e : xs[j]? = some o) (r : o.root = some b) : Sd K D H ((.ref b, o) :: (.ref a, .l a (xs.set j (.m b))) :: T) σ ρ := by
  have hb := h.tm (.ref a, .l a xs) List.mem_cons_self
  cases hb with
  | l g1 g2 =>
    rename_i vs
    obtain ⟨u, hu, qu⟩ := g2.get e
    have hv := root_ref r qu
    subst hv
    have eq : vs.set j (.ref b) = vs := by
      obtain ⟨l, hl⟩ := List.getElem?_eq_some_iff.mp hu
      rw [← hl]
      exact List.set_getElem_self l
    have g3 : DenOs K D H vs (xs.set j (.m b)) := by
      have := g2.set (DenO.m (K := K) (D := D) (H := H) b) j
      rw [eq] at this
      exact this
    have pm : (fpT ((V.ref b, o) :: (V.ref a, Ow.l a (xs.set j (.m b))) :: T) ++ fpR ρ).Perm (fpT ((V.ref a, Ow.l a xs) :: T) ++ fpR ρ) := by
      refine List.Perm.append_right _ ?_
      show (o.fp ++ ((a :: fps (xs.set j (.m b))) ++ fpT T)).Perm ((a :: fps xs) ++ fpT T)
      rw [← List.append_assoc]
      refine List.Perm.append_right _ ?_
      refine List.perm_middle.trans ?_
      exact ((fps_mid (.m b) e rfl).symm).cons a
    refine .mk' h.ex (fun p hp => ?_) h.sl pm h.nd h.out
    rcases List.mem_cons.mp hp with z | z
    · subst z; exact qu
    · rcases List.mem_cons.mp z with z | z
      · subst z; exact .l g1 g3
      · exact h.tm p (List.mem_cons_of_mem _ z)
/-- .. and back -/
theorem Sd.unfocus {xs : List Ow} {j : Nat} {w : V} (h : Sd K D H ((w, o) :: (.ref a, .l a xs) :: T) σ ρ) (e : xs[j]? = some (.m b)) (r : o.root = some b) : Sd K D H ((.ref a, .l a (xs.set j o)) :: T) σ ρ := by
  have hb := h.tm (.ref a, .l a xs) (List.mem_cons_of_mem _ List.mem_cons_self)
  have ho := h.tm (w, o) List.mem_cons_self
  have hw := root_ref r ho
  subst hw
  cases hb with
  | l g1 g2 =>
    rename_i vs
    obtain ⟨u, hu, qu⟩ := g2.get e
    have hv : u = .ref b := by cases qu; rfl
    subst hv
    have eq : vs.set j (.ref b) = vs := by
      obtain ⟨l, hl⟩ := List.getElem?_eq_some_iff.mp hu
      rw [← hl]
      exact List.set_getElem_self l
    have g3 : DenOs K D H vs (xs.set j o) := by
      have := g2.set ho j
      rw [eq] at this
      exact this
    have hj : j < xs.length := (List.getElem?_eq_some_iff.mp e).1
    have e2 : (xs.set j o)[j]? = some o := by rw [List.getElem?_set_self hj]
    have e3 : (xs.set j o).set j (.m b) = xs := by
      rw [List.set_set]
      obtain ⟨l, hl⟩ := List.getElem?_eq_some_iff.mp e
      rw [← hl]
      exact List.set_getElem_self l
    have pm : (fpT ((V.ref a, Ow.l a (xs.set j o)) :: T) ++ fpR ρ).Perm (fpT ((V.ref b, o) :: (V.ref a, Ow.l a xs) :: T) ++ fpR ρ) := by
      refine List.Perm.append_right _ ?_
      show ((a :: fps (xs.set j o)) ++ fpT T).Perm (o.fp ++ ((a :: fps xs) ++ fpT T))
      rw [← List.append_assoc]
      refine List.Perm.append_right _ ?_
      have q := fps_mid (.m b) e2 rfl
      rw [e3] at q
      exact (q.cons a).trans List.perm_middle.symm
    refine .mk' h.ex (fun p hp => ?_) h.sl pm h.nd h.out
    rcases List.mem_cons.mp hp with z | z
    · subst z; exact .l g1 g3
    · exact h.tm p (List.mem_cons_of_mem _ (List.mem_cons_of_mem _ z))
/-- the last item of an owned list that stands as a temporary -/
theorem Sd.popl {ys : List Ow} (h : Sd K D H ((.ref b, .l b (ys ++ [o])) :: T) σ ρ) : ∃ vs y, H b = some (.lst vs) ∧ vs[vs.length - 1]? = some y ∧ Sd K D (upd H b (.lst vs.dropLast)) ((y, o) :: (.ref b, .l b ys) :: T) σ ρ := by
  have hb := h.tm (.ref b, .l b (ys ++ [o])) List.mem_cons_self
  cases hb with
  | l g1 g2 =>
    rename_i vs
    have hl := g2.length
    rw [List.length_append, List.length_singleton] at hl
    have e : (ys ++ [o])[vs.length - 1]? = some o := by rw [hl, Nat.add_sub_cancel, List.getElem?_append_right (Nat.le_refl _), Nat.sub_self]; rfl
    obtain ⟨y, hy, qy⟩ := g2.get e
    refine ⟨vs, y, g1, hy, ?_⟩
    have gt : DenOs K D H vs.dropLast ys := by
      have t := g2.take ys.length
      rw [List.take_left' rfl] at t
      rw [List.dropLast_eq_take, hl, Nat.add_sub_cancel]
      exact t
    have nd : ((b :: fps (ys ++ [o])) ++ fpT T ++ fpR ρ).Nodup := h.nd
    have fb : D b = none := h.out b (by show b ∈ ((b :: fps (ys ++ [o])) ++ fpT T) ++ fpR ρ; simp)
    have pm : (fpT ((y, o) :: (V.ref b, Ow.l b ys) :: T) ++ fpR ρ).Perm (fpT ((V.ref b, Ow.l b (ys ++ [o])) :: T) ++ fpR ρ) := by
      refine List.Perm.append_right _ ?_
      show (o.fp ++ ((b :: fps ys) ++ fpT T)).Perm ((b :: fps (ys ++ [o])) ++ fpT T)
      rw [fps_app]
      show (o.fp ++ ((b :: fps ys) ++ fpT T)).Perm ((b :: (fps ys ++ (o.fp ++ []))) ++ fpT T)
      rw [List.append_nil, ← List.append_assoc]
      refine List.Perm.append_right _ ?_
      exact (List.perm_append_comm (l₁ := o.fp) (l₂ := b :: fps ys))
    have nb : ∀ c ∈ (fps (ys ++ [o]) ++ fpT T) ++ fpR ρ, c ≠ b := fun c hc z => by
      have q : (b :: (fps (ys ++ [o]) ++ fpT T ++ fpR ρ)).Nodup := nd
      rw [List.nodup_cons] at q
      exact q.1 (by rw [← z]; exact hc)
    have mo : ∀ c ∈ o.fp, c ∈ fps (ys ++ [o]) := fun c hc => by rw [fps_app]; exact List.mem_append_right _ (by show c ∈ o.fp ++ []; simpa using hc)
    have my : ∀ c ∈ fps ys, c ∈ fps (ys ++ [o]) := fun c hc => by rw [fps_app]; exact List.mem_append_left _ hc
    refine .mk' (fun c u hc => by rw [upd_ne (fun z => by rw [z, fb] at hc; cases hc)]; exact h.ex c u hc) (fun q hq => ?_)
      (h.sl.keep (Ex.refl D) fun c hc u hu => by rw [upd_ne (nb c (List.mem_append_right _ hc))]; exact hu) pm h.nd h.out
    rcases List.mem_cons.mp hq with z | z
    · subst z; exact qy.keep (Ex.refl D) fun c hc u hu => by rw [upd_ne (nb c (by simp [mo c hc]))]; exact hu
    · rcases List.mem_cons.mp z with z | z
      · subst z
        exact .l upd_same (gt.keep (Ex.refl D) fun c hc u hu => by rw [upd_ne (nb c (by simp [my c hc]))]; exact hu)
      · exact (h.tm q (List.mem_cons_of_mem _ z)).keep (Ex.refl D) fun c hc u hu => by rw [upd_ne (nb c (by simp [mem_fpT z hc]))]; exact hu
theorem set_m {ρ : Rh} {i : Nat} {x : Option Ow} {a : Addr} {o : Ow} (e : ρ[i]? = some x) : (ρ.set i (some (.m a)))[i]? = some (some (.m a)) := by
  rw [List.getElem?_set_self (List.getElem?_eq_some_iff.mp e).1]
theorem tyv {xs : List V} (h : H a = some (.lst xs)) : tyV K "list" (.ref a) H := .inl ⟨rfl, _, sq_of h⟩
/-- xs.append(e) -/
theorem ev_app (h : ∃ a xs, ρ[i]? = some (some (.l a xs)) ∧ EvP K E te ρ (bnd (fun o ρ1 => ∃ xs1, ρ1[i]? = some (some (.l a xs1)) ∧ xs1.length < 100000 ∧ P (.ok (.d .non)) (ρ1.set i (some (.l a (xs1 ++ [o]))))) P)) : EvP K E (tBM K "list" rAppend (tVar i) (tCons te tNil)) ρ P := by
  intro D H T σ Q s k xo
  obtain ⟨a, xs, e, h⟩ := h
  obtain ⟨s1, vs, ha, hv⟩ := s.getl e
  refine ⟨.ref a, s1, tyv ha, ?_⟩
  refine h D H T σ _ s (fun y o ρ1 D1 H1 q1 g => ?_) (xo.sub0 fun _ _ _ z => z)
  obtain ⟨xs1, e1, hl, q⟩ := q1
  obtain ⟨_, g2⟩ := g.move e1 rfl
  obtain ⟨acc, a1, a2, g3⟩ := (g2.perm (List.Perm.swap _ _ _)).app
  have g4 := g3.back rfl (set_m (o := o) e1)
  rw [List.set_set] at g4
  exact ⟨a, acc, y, rfl, rfl, a1, sz_lt (by omega), k _ _ _ _ _ q (g4.push .non)⟩
theorem at_nat {xs : List V} {j : Nat} {w : V} (h : xs[j]? = some w) : atI xs (j : Int) = some w := by
  have hj : j < xs.length := (List.getElem?_eq_some_iff.mp h).1
  unfold atI
  rw [ixN_nat hj]
  exact h
/-- xs[j].pop(), xs and its items owned; j pure (it leaves the state) -/
theorem ev_pop2 (h : EvP K E tj ρ (bnd (fun y ρ1 => ρ1 = ρ ∧ ∃ a xs b ys j o, y = .d (.int ((j : Nat) : Int)) ∧ ρ[i]? = some (some (.l a xs)) ∧ xs[j]? = some (.l b (ys ++ [o])) ∧ P (.ok o) (ρ.set i (some (.l a (xs.set j (.l b ys)))))) P))
    (hi : ∃ a xs, ρ[i]? = some (some (.l a xs))) : EvP K E (tBM0 K "list" rPop (tOp (rIxL K) (tVar i) tj)) ρ P := by
  intro D H T σ Q s k xo
  obtain ⟨a0, xs0, e0⟩ := hi
  obtain ⟨s0, _⟩ := s.getl e0
  refine ⟨.ref a0, s0, ?_⟩
  refine h D H T σ _ s (fun y z ρ1 D1 H1 q1 g => ?_) (xo.sub0 fun _ _ _ z => z)
  obtain ⟨rfl, a, xs, b, ys, j, o, rfl, e, ej, q⟩ := q1
  rw [e0] at e
  cases e
  have hy := g.tm (y, _) List.mem_cons_self
  cases hy with
  | d hy =>
    cases hy
    obtain ⟨_, vs, ha, hv⟩ := g.pop.getl e0
    obtain ⟨_, g2⟩ := g.pop.move e0 rfl
    have g3 := g2.focus ej rfl
    obtain ⟨w, hw, qw⟩ := hv.get ej
    have hwr : w = .ref b := root_ref rfl qw
    subst hwr
    refine ⟨a0, vs, j, .ref b, rfl, rfl, sq_of ha, at_nat hw, ?_⟩
    obtain ⟨ws, y2, b1, b2, g4⟩ := g3.popl
    refine ⟨tyv b1, b, ws, y2, rfl, rfl, b1, b2, ?_⟩
    have hj : j < xs0.length := (List.getElem?_eq_some_iff.mp ej).1
    have g5 := (g4.perm ((List.Perm.swap _ _ _).trans (((List.Perm.swap _ _ _)).cons _))).unfocus (b := b) (j := j) (by rw [List.getElem?_set_self hj]) rfl
    rw [List.set_set] at g5
    have g6 := g5.back rfl (set_m (o := o) e0)
    rw [List.set_set] at g6
    exact k _ _ _ _ _ q g6
/-- xs.pop() -/
theorem ev_pop (h : ∃ a xs o, ρ[i]? = some (some (.l a (xs ++ [o]))) ∧ P (.ok o) (ρ.set i (some (.l a xs)))) : EvP K E (tBM0 K "list" rPop (tVar i)) ρ P := by
  intro D H T σ Q s k xo
  obtain ⟨a, xs, o, e, q⟩ := h
  obtain ⟨s1, vs, ha, hv⟩ := s.getl e
  refine ⟨.ref a, s1, tyv ha, ?_⟩
  obtain ⟨_, g2⟩ := s.move e rfl
  obtain ⟨ws, y2, b1, b2, g4⟩ := g2.popl
  have g5 := (g4.perm (List.Perm.swap _ _ _)).back rfl (set_m (o := o) e)
  rw [List.set_set] at g5
  exact ⟨a, ws, y2, rfl, rfl, b1, b2, k _ _ _ _ _ q g5⟩
/-- xs[j] = e -/
theorem sv_set {ti : TE} (h : EvP K E te ρ (bndS (fun o ρ1 => (∃ a xs, ρ1[i]? = some (some (.l a xs))) ∧ EvP K E ti ρ1 (bndS (fun y ρ2 => ρ2 = ρ1 ∧ ∃ (d : Dat) (a : Addr) (xs : List Dat) (j : Nat), o = .d d ∧ y = .d (.int ((j : Nat) : Int)) ∧ ρ1[i]? = some (some (.l a (xs.map Ow.d))) ∧ j < xs.length ∧ S (.nx (ρ1.set i (some (.l a ((xs.set j d).map Ow.d)))))) S)) S)) : SvP K E (tAsg te (gSub (tVar i) ti rSetL)) ρ S := by
  intro D H T σ En s w
  refine h D H T σ _ s (fun v o ρ1 D1 H1 q1 g => ?_) (.ofWd w fun _ _ _ z => z)
  obtain ⟨⟨a0, xs0, e0⟩, q1⟩ := q1
  obtain ⟨s0, _⟩ := g.getl e0
  refine ⟨.ref a0, s0, ?_⟩
  refine q1 D1 H1 _ σ _ g (fun y z ρ2 D2 H2 q2 g2 => ?_) (XOk.sub1 (XOk.ofWd w fun _ _ _ z => z) fun _ _ _ z => z)
  obtain ⟨rfl, d, a, xs, j, rfl, rfl, e, hj, q⟩ := q2
  rw [e0] at e
  cases e
  have hy := g2.tm (y, _) List.mem_cons_self
  have hd := g2.tm (v, _) (List.mem_cons_of_mem _ List.mem_cons_self)
  cases hy with
  | d hy =>
    cases hy
    cases hd with
    | d hd =>
      have g3 := g2.pop.pop
      obtain ⟨_, vs, ha, hv⟩ := g3.getl e0
      have hlen := hv.toAll.length
      refine ⟨a0, vs, (j : Int), j, rfl, rfl, ha, ixN_nat (by omega), w.nx _ D2 _ σ q ?_⟩
      have gn : DenOs K D2 H2 (vs.set j v) ((xs.set j d).map Ow.d) := DenOs.ofAll (hv.toAll.set hd j)
      have e1 := fpR_none e0
      have hl1 : i < ρ2.length := (List.getElem?_eq_some_iff.mp e0).1
      refine g3.write (L := fpT T) e0 gn (fun p hp => .inl hp) (fun b hb z => ?_) (by rw [fps_map]; exact List.Perm.refl _) ?_ (fun b hb => g3.out b (List.mem_append_left _ hb))
      · rw [fps_map] at hb
        have q3 : (fpT T ++ ((a0 :: fps (xs.map Ow.d)) ++ fpR (ρ2.set i none))).Nodup := (e1.append_left _).nodup_iff.mp g3.nd
        have q4 := (List.nodup_append.mp q3).2.2 b hb a0 (by simp)
        exact q4 z
      · have q3 : (fpT T ++ ((a0 :: fps (xs.map Ow.d)) ++ fpR (ρ2.set i none))).Nodup := (e1.append_left _).nodup_iff.mp g3.nd
        rw [fps_map] at q3
        exact q3
/-! dicts with tuple keys -/
theorem ev_dnewT (h : ∀ b, P (.ok (.t b [])) ρ) : EvP K E tDNewT ρ P := by
  intro D H T σ Q s k xo p hp
  refine k _ _ _ D _ (h p) ?_
  have g := s.newO hp (.dT [])
  refine ⟨g.ex, fun q hq => ?_, g.sl, ?_, fun c hc => ?_, g.tb⟩
  · rcases List.mem_cons.mp hq with z | z
    · subst z; exact .t upd_same .nil
    · exact g.tm q z
  · show (p :: ([] ++ fpT T ++ fpR ρ)).Nodup
    rw [List.nil_append, List.nodup_cons]
    exact ⟨fun z => s.nep hp p z rfl, s.nd⟩
  · rcases List.mem_cons.mp (show c ∈ p :: (fpT T ++ fpR ρ) from hc) with z | z
    · rw [z]; exact s.dnone hp
    · exact s.out c z
def keyD (k : List Key) : Dat := .tup (k.map fun x => match x with | .inl i => .int i | .inr s => .str s)
theorem den_key {k : List Key} (h : Den K D v (keyD k)) : ∃ b, v = .ref b ∧ D b = some (.tup (k.map kV)) := by
  unfold keyD at h
  cases h with
  | tup g1 g2 =>
    rename_i b xs
    refine ⟨b, rfl, ?_⟩
    have : ∀ {xs : List V} {k : List Key}, DenAll K D xs (k.map fun x => match x with | .inl i => Dat.int i | .inr s => Dat.str s) → xs = k.map kV := by
      intro xs k
      induction k generalizing xs with
      | nil => intro h; cases h; rfl
      | cons x k ih =>
        intro h
        cases h with
        | cons r t =>
          rw [ih t]
          cases x with
          | inl i => cases r; rfl
          | inr s => cases r; rfl
    rw [this g2] at g1
    exact g1
def valD (kvs : List (List Key × Dat)) (k : List Key) : Option Dat := (kvs.find? fun kv => decide (kv.1 = k)).map (·.2)
def putK' (kvs : List (List Key × Dat)) (k : List Key) (v : Dat) : List (List Key × Dat) :=
  if (kvs.any fun kv => decide (kv.1 = k)) = true then kvs.map (fun kv => if kv.1 = k then (kv.1, v) else kv) else kvs ++ [(k, v)]
theorem DenK.val {k : List Key} : ∀ {kvs : List (List Key × V)} {kds : List (List Key × Dat)}, DenK K D kvs kds →
    (valD kds k = none → valV kvs k = none) ∧ (∀ d, valD kds k = some d → ∃ v, valV kvs k = some v ∧ Den K D v d)
  | _, _, .nil => ⟨fun _ => rfl, fun d h => by cases h⟩
  | _, _, .cons (k := k0) (kvs := kvs) (kds := kds) r t => by
    obtain ⟨h1, h2⟩ := DenK.val (k := k) t
    by_cases e : k0 = k
    · subst e
      refine ⟨fun z => ?_, fun d z => ?_⟩
      · simp [valD, List.find?_cons] at z
      · simp [valD, List.find?_cons] at z
        subst z
        exact ⟨_, by simp [valV, List.find?_cons], r⟩
    · refine ⟨fun z => ?_, fun d z => ?_⟩
      · have z' : valD kds k = none := by simpa [valD, List.find?_cons, e] using z
        have := h1 z'
        simpa [valV, List.find?_cons, e] using this
      · have z' : valD kds k = some d := by simpa [valD, List.find?_cons, e] using z
        obtain ⟨v, g1, g2⟩ := h2 d z'
        exact ⟨v, by simpa [valV, List.find?_cons, e] using g1, g2⟩
theorem DenK.keys : ∀ {kvs : List (List Key × V)} {kds : List (List Key × Dat)}, DenK K D kvs kds → kvs.map (·.1) = kds.map (·.1)
  | _, _, .nil => rfl
  | _, _, .cons _ t => by rw [List.map_cons, List.map_cons, DenK.keys t]
theorem DenK.length {kvs : List (List Key × V)} {kds : List (List Key × Dat)} (h : DenK K D kvs kds) : kvs.length = kds.length := by
  have := congrArg List.length h.keys
  simpa using this
theorem DenK.put {k : List Key} {x : Dat} (q : Den K D v x) {kvs : List (List Key × V)} {kds : List (List Key × Dat)} (h : DenK K D kvs kds) : DenK K D (putK kvs k v) (putK' kds k x) := by
  have ea : (kvs.any fun kv => decide (kv.1 = k)) = (kds.any fun kv => decide (kv.1 = k)) := by
    have : ∀ {kvs : List (List Key × V)} {kds : List (List Key × Dat)}, DenK K D kvs kds → (kvs.any fun kv => decide (kv.1 = k)) = (kds.any fun kv => decide (kv.1 = k)) := by
      intro kvs kds h
      induction h with
      | nil => rfl
      | cons r t ih => rw [List.any_cons, List.any_cons, ih]
    exact this h
  unfold putK putK'
  rw [ea]
  by_cases c : (kds.any fun kv => decide (kv.1 = k)) = true
  · rw [if_pos c, if_pos c]
    clear ea c
    induction h with
    | nil => exact .nil
    | cons r t ih =>
      rename_i k0 _ _ _ _
      rw [List.map_cons, List.map_cons]
      by_cases e : k0 = k
      · rw [if_pos e, if_pos e]; exact .cons q ih
      · rw [if_neg e, if_neg e]; exact .cons r ih
  · rw [if_neg c, if_neg c]
    clear ea c
    induction h with
    | nil => exact .cons q .nil
    | cons r t ih => exact .cons r ih
/-- d.get(k, x), d in a slot -/
theorem ev_dget2 (hi : ∃ a kds, ρ[i]? = some (some (.t a kds))) (h : EvP K E ty ρ (bnd (fun y ρ1 => EvP K E tx ρ1 (bnd (fun z ρ2 => ∃ a kds k w, ρ[i]? = some (some (.t a kds)) ∧ ρ2[i]? = some (some (.t a kds)) ∧ y = .d (keyD k) ∧ z = .d w ∧ P (.ok (.d ((valD kds k).getD w))) ρ2) P)) P)) : EvP K E (tDGet2 (tVar i) ty tx) ρ P := by
  intro D H T σ Q s k xo
  obtain ⟨a0, kds0, e0⟩ := hi
  obtain ⟨s0, kvs0, h0, _⟩ := s.gett e0
  refine ⟨.ref a0, s0, a0, rfl, .inr ⟨kvs0, .inl h0⟩, ?_⟩
  refine h D H T σ _ s (fun u y ρ1 D1 H1 q1 s1 => ?_) (xo.sub0 fun _ _ _ z => z)
  refine q1 D1 H1 _ σ _ s1 (fun u2 z ρ2 D2 H2 q2 s2 => ?_) (xo.sub1 fun _ _ _ z => z)
  obtain ⟨a, kds, key, w, e1, e2, rfl, rfl, q⟩ := q2
  rw [e0] at e1
  cases e1
  have hy := s2.tm (u, _) (List.mem_cons_of_mem _ List.mem_cons_self)
  have hz := s2.tm (u2, _) List.mem_cons_self
  cases hy with
  | d hy =>
    cases hz with
    | d hz =>
      obtain ⟨b, rfl, hb⟩ := den_key hy
      have s3 := s2.pop.pop
      obtain ⟨_, kvs, hk, dk⟩ := s3.gett e2
      obtain ⟨v1, v2⟩ := dk.val (k := key)
      refine ⟨valV kvs key, DGet.t hk (s3.ex _ _ hb), k _ _ _ D2 H2 q (s3.push ?_)⟩
      cases hc : valD kds0 key with
      | none =>
        rw [v1 hc]
        exact hz
      | some d =>
        obtain ⟨v, g1, g2⟩ := v2 d hc
        rw [g1]
        exact g2
/-- d[k], there -/
theorem ev_dget (hi : ∃ a kds, ρ[i]? = some (some (.t a kds))) (h : EvP K E ty ρ (bnd (fun y ρ1 => ∃ a kds k w, ρ1[i]? = some (some (.t a kds)) ∧ ρ[i]? = some (some (.t a kds)) ∧ y = .d (keyD k) ∧ valD kds k = some w ∧ P (.ok (.d w)) ρ1) P)) : EvP K E (tDGet (tVar i) ty) ρ P := by
  intro D H T σ Q s k xo
  obtain ⟨a0, kds0, e0⟩ := hi
  obtain ⟨s0, kvs0, h0, _⟩ := s.gett e0
  refine ⟨.ref a0, s0, ?_⟩
  refine h D H T σ _ s (fun u y ρ1 D1 H1 q1 s1 => ?_) (xo.sub0 fun _ _ _ z => z)
  obtain ⟨a, kds, key, w, e1, e2, rfl, hw, q⟩ := q1
  rw [e0] at e2
  cases e2
  have hy := s1.tm (u, _) List.mem_cons_self
  cases hy with
  | d hy =>
    obtain ⟨b, rfl, hb⟩ := den_key hy
    have s3 := s1.pop
    obtain ⟨_, kvs, hk, dk⟩ := s3.gett e1
    obtain ⟨v1, v2⟩ := dk.val (k := key)
    obtain ⟨v, g1, g2⟩ := v2 w hw
    exact ⟨a0, v, rfl, by have := DGet.t (k := key) hk (s3.ex _ _ hb); rw [g1] at this; exact this, k _ _ _ D1 H1 q (s3.push g2)⟩
/-- d[k] = x, d in a slot -/
theorem sv_dput (h : EvP K E tv ρ (bndS (fun o ρ1 => (∃ a kds, ρ1[i]? = some (some (.t a kds))) ∧ EvP K E ty ρ1 (bndS (fun y ρ2 => ρ2 = ρ1 ∧ ∃ d a kds k, o = .d d ∧ y = .d (keyD k) ∧ ρ1[i]? = some (some (.t a kds)) ∧ kds.length < 100000 ∧ S (.nx (ρ1.set i (some (.t a (putK' kds k d)))))) S)) S)) : SvP K E (sDPut (tVar i) ty tv) ρ S := by
  intro D H T σ En s w
  refine h D H T σ _ s (fun v o ρ1 D1 H1 q1 g => ?_) (.ofWd w fun _ _ _ z => z)
  obtain ⟨⟨a0, kds0, e0⟩, q1⟩ := q1
  obtain ⟨s0, _⟩ := g.gett e0
  refine ⟨.ref a0, s0, ?_⟩
  refine q1 D1 H1 _ σ _ g (fun u z ρ2 D2 H2 q2 g2 => ?_) (XOk.sub1 (XOk.ofWd w fun _ _ _ z => z) fun _ _ _ z => z)
  obtain ⟨rfl, d, a, kds, key, rfl, rfl, e, hl, q⟩ := q2
  rw [e0] at e
  cases e
  have hy := g2.tm (u, _) List.mem_cons_self
  have hd := g2.tm (v, _) (List.mem_cons_of_mem _ List.mem_cons_self)
  cases hy with
  | d hy =>
    cases hd with
    | d hd =>
      obtain ⟨b, rfl, hb⟩ := den_key hy
      have g3 := g2.pop.pop
      obtain ⟨_, kvs, hk, dk⟩ := g3.gett e0
      refine ⟨a0, _, rfl, DPut.t hk (g3.ex _ _ hb) (sz_lt (by rw [dk.length]; exact hl)), w.nx _ D2 _ σ q ?_⟩
      have e1 := fpR_none e0
      have hl1 : i < ρ2.length := (List.getElem?_eq_some_iff.mp e0).1
      have fa : D2 a0 = none := g3.out a0 (List.mem_append_right _ (e1.mem_iff.mpr (List.mem_append_left _ List.mem_cons_self)))
      have nT : ∀ c ∈ fpT T ++ fpR (ρ2.set i none), c ≠ a0 := fun c hc z => by
        have q : (fpT T ++ (a0 :: fpR (ρ2.set i none))).Nodup := (e1.append_left _).nodup_iff.mp g3.nd
        have q2 : (a0 :: (fpT T ++ fpR (ρ2.set i none))).Nodup := List.perm_middle.nodup_iff.mp q
        rw [List.nodup_cons] at q2
        exact q2.1 (by rw [← z]; exact hc)
      have sl0 : Slots K D2 (upd H2 a0 (.dT (putK kvs key v))) σ (ρ2.set i none) := (g3.sl.none i).keep (Ex.refl D2) fun c hc u hu => by rw [upd_ne (nT c (List.mem_append_right _ hc))]; exact hu
      have sl1 := sl0.put s0 (o := .t a0 (putK' kds0 key d)) (.t upd_same (dk.put hd))
      rw [List.set_set] at sl1
      have pm : (fpT T ++ fpR (ρ2.set i (some (.t a0 (putK' kds0 key d))))).Perm (fpT T ++ fpR ρ2) := by
        refine List.Perm.append_left _ ((fpR_set _ hl1).trans ?_)
        exact e1.symm
      exact .mk' (fun c u hc => by rw [upd_ne (fun z => by rw [z, fa] at hc; cases hc)]; exact g3.ex c u hc)
        (fun p hp => (g3.tm p hp).keep (Ex.refl D2) fun c hc u hu => by rw [upd_ne (nT c (List.mem_append_left _ (mem_fpT hp hc)))]; exact hu) sl1 pm g3.nd g3.out
/-! several names at once -/
def gnames : List Nat → TGs
  | [] => gNil
  | i :: is => gCons (gName i) (gnames is)
def setAll (ρ : Rh) : List Nat → List Ow → Rh
  | i :: is, o :: os => setAll (ρ.set i (some o)) is os
  | _, _ => ρ
theorem gn_run : ∀ (is : List Nat) (vs : List V) (os : List Ow) (ρ : Rh) (σ : L2.St) (Q : L2.St → Hp → Prop), vs.length = os.length → os.length = is.length → (∀ i ∈ is, i < ρ.length) →
    Sd K D H (vs.zip os ++ T) σ ρ → (∀ σ', Sd K D H T σ' (setAll ρ is os) → Q σ' H) → gnames is vs σ H Q := by
  intro is
  induction is with
  | nil =>
    intro vs os ρ σ Q e1 e2 _ s k
    cases os with
    | cons o os => simp at e2
    | nil =>
      cases vs with
      | cons v vs => simp at e1
      | nil => exact ⟨rfl, k σ s⟩
  | cons i is ih =>
    intro vs os ρ σ Q e1 e2 hi s k
    cases os with
    | nil => simp at e2
    | cons o os =>
      cases vs with
      | nil => simp at e1
      | cons v vs =>
        refine ⟨v, vs, rfl, ?_⟩
        have g := Sd.toSlot (T := vs.zip os ++ T) s i (by rw [s.len]; exact hi i List.mem_cons_self)
        exact ih vs os _ _ Q (by simpa using e1) (by simpa using e2) (fun j hj => by rw [List.length_set]; exact hi j (List.mem_cons_of_mem _ hj)) g k
theorem sv_asgT (is : List Nat) {n : Nat} (h : AvP K E tas ρ (fun os ρ1 => os.length = n ∧ n = is.length ∧ (∀ i ∈ is, i < ρ1.length) ∧ n ≤ 1000 ∧ S (.nx (setAll ρ1 is os))) (bndS (fun _ _ => True) S)) : SvP K E (tAsg (tTup tas) (gTup K n (gnames is))) ρ S := by
  intro D H T σ En s w
  refine h D H T σ _ s (fun vs os ρ1 D1 H1 q1 e1 s1 => ?_) (.ofWd w fun _ _ _ z => z)
  obtain ⟨h1, h2, h3, h4, q⟩ := q1
  refine ⟨sz_of (by omega), fun p hp => ⟨p, vs, rfl, st_of upd_same, by omega, ?_⟩⟩
  exact gn_run is vs os ρ1 σ _ e1 (by omega) h3 (s1.newO hp _) fun σ' s2 => w.nx _ D1 _ σ' q s2
theorem sv_par {j : Nat} (h : AvP K E tas ρ (fun os ρ1 => ∃ o1 o2, os = [o1, o2] ∧ i < ρ1.length ∧ j < ρ1.length ∧ S (.nx ((ρ1.set i (some o1)).set j (some o2)))) (bndS (fun _ _ => True) S)) : SvP K E (tPar i j tas) ρ S := by
  intro D H T σ En s w
  refine h D H T σ _ s (fun vs os ρ1 D1 H1 q1 e1 s1 => ?_) (.ofWd w fun _ _ _ z => z)
  obtain ⟨o1, o2, rfl, h1, h2, q⟩ := q1
  match vs, e1 with
  | [v, u], _ =>
    refine ⟨v, u, rfl, w.nx _ D1 H1 _ q ?_⟩
    have g := Sd.toSlot (T := (u, o2) :: T) s1 i (by rw [s1.len]; exact h1)
    exact g.toSlot j (by rw [g.len, List.length_set]; exact h2)
/-- x += e of ints -/
theorem sv_aug {f : Int → Int → Int} (h : EvP K E te ρ (bndS (fun y ρ1 => ∃ m n, ρ[i]? = some (some (.d (.int m))) ∧ y = .d (.int n) ∧ i < ρ1.length ∧ S (.nx (ρ1.set i (some (.d (.int (f m n))))))) S)) (hi : ∃ m, ρ[i]? = some (some (.d (.int m)))) : SvP K E (tAug i te (ipI f)) ρ S := by
  intro D H T σ En s w
  obtain ⟨m0, e0⟩ := hi
  obtain ⟨v, h1, h2⟩ := s.getd e0
  cases h2
  refine ⟨.int m0, h1, ?_⟩
  refine h D H T σ _ s (fun u y ρ1 D1 H1 q1 g => ?_) (.ofWd w fun _ _ _ z => z)
  obtain ⟨m, n, e1, rfl, hl, q⟩ := q1
  rw [e0] at e1
  cases e1
  have hy := g.tm (u, _) List.mem_cons_self
  cases hy with
  | d hy =>
    cases hy
    exact ⟨m0, n, rfl, rfl, w.nx _ D1 H1 _ q ((g.pop.push (.int (f m0 n))).toSlot i (by rw [g.len]; exact hl))⟩
end
end DL

/-! ### H. defs by name -/
namespace DL
open PySem L2 Evl PySem.Spec PyProof.Rows
theorem units65 {A : Around} {k : Nat} (hr : Room k A) : A.units + 65 < cLine := by have := hr.un; omega
theorem units64 {A : Around} {k : Nat} (hr : Room k A) : A.units + 64 < cLine := by have := hr.un; omega
section
variable (P : Program) (w : World) (K : PySem.W.Frag) [HasTabs K] (mg : Str → Option Value) (base : Heap)
/-- a def of the text: its name stands for it, its body is known -/
structure Dfn (x qual : Str) (st : Stmt) (ps : List Str) : Prop where
  ex : ∃ (f : Addr) (fd : FuncData), mg x = some (.ref f) ∧ PySem.W.keepIn K (.ref f) = true ∧ Binds K fd ps [] ∧ Fun K x qual st f fd
/-- .. its promise -/
structure Ok (k : Nat) (x : Str) (ps : List Str) (R : Pr) : Prop where
  ex : ∃ (f : Addr) (fd : FuncData), mg x = some (.ref f) ∧ PySem.W.keepIn K (.ref f) = true ∧ Binds K fd ps [] ∧ FnOk P w K mg base CX0 k f fd ps (spOf K R)
/-- a class by its __init__ -/
structure Cfn (x qual : Str) (st : Stmt) (ps : List Str) (C : Addr) : Prop where
  ex : ∃ (f : Addr) (fd : FuncData), mg x = some (.ref C) ∧ Mk K C f ∧ Binds K fd ps [] ∧ Fun K "__init__" qual st f fd
structure OkC (k : Nat) (x : Str) (ps : List Str) (C : Addr) (R : Pr) : Prop where
  ex : ∃ (f : Addr) (fd : FuncData), mg x = some (.ref C) ∧ Mk K C f ∧ Binds K fd ps [] ∧ FnOk P w K mg base CX0 k f fd ps (spOf K R)
end
section
variable {X : Cx} {k : Nat} {x : Str} {ps : List Str} {R : Pr} {p pos : Pos} {e : Expr} {es : List Expr} {t : TA} {C : Addr}
theorem pe_fn {P : Program} {w : World} {K : PySem.W.Frag} [HasTabs K] {mg : Str → Option Value} {base : Heap} (O : Ok P w K mg base k x ps R) (hX : X.prog = P ∧ X.w = w ∧ X.K = K ∧ X.mg = mg ∧ X.base = base) (hr : Room k X.A) (hg : Gl X x) (ha : PA X (e :: es) t) (hdb : (x == ("__debug__" : Str)) = false := by decide)
    (he : starEach (e :: es) X.env = (false, eval e X.env) :: starEach es X.env := by rfl) (hpl : (backTo pos (starEach es X.env)).any (·.1) = false := by rfl) : PE X (.Call (.Name x p) (e :: es) [] pos) (tCall (spOf K R) [] E0 t) := by
  obtain ⟨f, fd, hm, hk, hb, F⟩ := O.ex
  obtain ⟨rfl, rfl, rfl, rfl, rfl⟩ := hX
  exact pe_call F hr hg hm hk hb .nil pass0 ha hdb he hpl
theorem pe_cls {P : Program} {w : World} {K : PySem.W.Frag} [HasTabs K] {mg : Str → Option Value} {base : Heap} (O : OkC P w K mg base k x ps C R) (hX : X.prog = P ∧ X.w = w ∧ X.K = K ∧ X.mg = mg ∧ X.base = base) (hr : Room (k + 1) X.A) (hg : Gl X x) (ha : PA X (e :: es) t) (hdb : (x == ("__debug__" : Str)) = false := by decide)
    (he : starEach (e :: es) X.env = (false, eval e X.env) :: starEach es X.env := by rfl) (hpl : (backTo pos (starEach es X.env)).any (·.1) = false := by rfl) : PE X (.Call (.Name x p) (e :: es) [] pos) (tMake C (spOf K R) [] E0 t) := by
  obtain ⟨f, fd, hm, hk, hb, F⟩ := O.ex
  obtain ⟨rfl, rfl, rfl, rfl, rfl⟩ := hX
  exact pe_make hk F hr hg hm hb .nil pass0 ha hdb he hpl
theorem pe_fldK {K : PySem.W.Frag} [HasTabs K] {f : Str} {ta : TE} (hK : X.K = K) (he : PE X e ta) (hb : attributeBase e f X.env (eval e X.env) = eval e X.env) : PE X (.Attribute e f pos) (tFld K ta f) := by
  subst hK
  exact pe_fld he hb
theorem ps_fldK {K : PySem.W.Frag} [HasTabs K] {f : Str} {o value : Expr} {ta tv : TE} {pos' : Pos} (hK : X.K = K) (ha : PE X o ta) (hv : PE X value tv) (hs : swapsWith value (some (.Attribute o f pos')) pos.line X.env = pure false) : PS X (.Assign [.Attribute o f pos'] value pos) (sFld K ta tv f) := by
  subst hK
  exact ps_fld ha hv hs
theorem pe_bm0K {K : PySem.W.Frag} [HasTabs K] {o : Expr} {to : TE} {name : Str} {apos cpos : Pos} {T id : String} {r : V → List V → Hp → VK → Prop} (hK : X.K = K) (pa : PlainAttrs T) (slot : Slot T name id) (hty : typeOf (.builtin id) = pure (.type "method_descriptor")) (hm : MtR X id r) (ho : PE X o to)
    (hbase : attributeBase o name X.env (eval o X.env) = eval o X.env := by rfl) (hline : (apos.endLine == cpos.line) = true := by rfl) : PE X (.Call (.Attribute o name apos) [] [] cpos) (tBM0 K T r to) := by
  subst hK
  exact pe_bm0 pa slot hty hm ho hbase hline
theorem pe_bmK {K : PySem.W.Frag} [HasTabs K] {o : Expr} {to : TE} {name : Str} {apos cpos : Pos} {T id : String} {r : V → List V → Hp → VK → Prop} (hK : X.K = K) (pa : PlainAttrs T) (slot : Slot T name id) (hty : typeOf (.builtin id) = pure (.type "method_descriptor")) (hm : MtR X id r) (ho : PE X o to) (ha : PA X (e :: es) t)
    (hbase : attributeBase o name X.env (eval o X.env) = eval o X.env := by rfl)
    (hfew : ((backTo cpos (starEach (e :: es) X.env)).all (fun x => !x.1) && (backToKw cpos (keywordEach [] X.env)).all (fun x => x.1.isSome)
      && decide ((e :: es).length + ([] : List Keyword).length + (if ([] : List Keyword).isEmpty then 0 else 1) < 30)) = true := by rfl)
    (hline : (apos.endLine == cpos.line) = true := by rfl) (hs : starEach (e :: es) X.env = (false, eval e X.env) :: starEach es X.env := by rfl) (hplain : (backTo cpos (starEach es X.env)).any (·.1) = false := by rfl) :
    PE X (.Call (.Attribute o name apos) (e :: es) [] cpos) (tBM K T r to t) := by
  subst hK
  exact pe_bm pa slot hty hm ho ha hbase hfew hline hs hplain
end
section
variable {P : Program} {w : World} {K : PySem.W.Frag} [HasTabs K] {mg : Str → Option Value} {base : Heap}
theorem Dfn.ok {x qual : Str} {st : Stmt} {N ps : List Str} {k : Nat} {R : Pr} (F : Dfn K mg x qual st ps) (S : FnScope N ps (defScope st)) (hl : ps.length ≤ N.length) (len : ∀ os Pp, R os Pp → os.length = ps.length)
    (noex : ∀ os Pp, R os Pp → R os (fun r us => (match r with | .ok _ => True | .ex _ _ => False) ∧ Pp r us))
    (hbody : ∀ (f : Addr) (cdv : Value) (A : Around) (outer : List Env) (s : Shared) (H : Hp) (E : XK), Room k (A.deeper (PyProof.Rows.envOfC qual (defScope st) s.heap.objs.size f cdv)) →
      ∃ t, PSs (cxOf CX0 P w K mg base N qual (defScope st) f cdv A outer s H E).nox (defBody st) t ∧ ∀ os Pp, R os Pp → SvP K E0 t (os.map some ++ List.replicate (N.length - os.length) none) (retS os Pp)) : Ok P w K mg base (k + 1) x ps R := by
  obtain ⟨f, fd, h1, h2, h3, h4⟩ := F.ex
  exact ⟨f, fd, h1, h2, h3, def_ok h4 S hl len (hbody f) noex⟩
theorem Cfn.ok {x qual : Str} {st : Stmt} {N ps : List Str} {k : Nat} {R : Pr} {C : Addr} (F : Cfn K mg x qual st ps C) (S : FnScope N ps (defScope st)) (hl : ps.length ≤ N.length) (len : ∀ os Pp, R os Pp → os.length = ps.length)
    (noex : ∀ os Pp, R os Pp → R os (fun r us => (match r with | .ok _ => True | .ex _ _ => False) ∧ Pp r us))
    (hbody : ∀ (f : Addr) (cdv : Value) (A : Around) (outer : List Env) (s : Shared) (H : Hp) (E : XK), Room k (A.deeper (PyProof.Rows.envOfC qual (defScope st) s.heap.objs.size f cdv)) →
      ∃ t, PSs (cxOf CX0 P w K mg base N qual (defScope st) f cdv A outer s H E).nox (defBody st) t ∧ ∀ os Pp, R os Pp → SvP K E0 t (os.map some ++ List.replicate (N.length - os.length) none) (retS os Pp)) : OkC P w K mg base (k + 1) x ps C R := by
  obtain ⟨f, fd, h1, h2, h3, h4⟩ := F.ex
  exact ⟨f, fd, h1, h2, h3, def_ok h4 S hl len (hbody f) noex⟩
end
/-- a promise told by a function: what is asked of the arguments, what comes, what becomes of them -/
def fnR (A : List Ow → Ow → List Ow → Prop) : Pr := fun os P => ∃ o us, A os o us ∧ P (.ok o) us
theorem fnR_noex {A : List Ow → Ow → List Ow → Prop} (os : List Ow) (Pp : Re → List Ow → Prop) (h : fnR A os Pp) : fnR A os (fun r us => (match r with | .ok _ => True | .ex _ _ => False) ∧ Pp r us) := by
  obtain ⟨o, us, a, q⟩ := h
  exact ⟨o, us, a, trivial, q⟩
/-- a pure def of data: its arguments stay -/
def pureR (A : List Dat → Dat → Prop) : Pr := fun os P => ∃ ds d, os = ds.map Ow.d ∧ A ds d ∧ P (.ok (.d d)) (ds.map Ow.d)
theorem pureR_noex {A : List Dat → Dat → Prop} (os : List Ow) (Pp : Re → List Ow → Prop) (h : pureR A os Pp) : pureR A os (fun r us => (match r with | .ok _ => True | .ex _ _ => False) ∧ Pp r us) := by
  obtain ⟨ds, d, e, a, q⟩ := h
  exact ⟨ds, d, e, a, trivial, q⟩
theorem bks_d : ∀ (ds : List Dat) (ρ : Rh), bks (ds.map Ow.d) ρ = ρ
  | [], _ => rfl
  | _ :: ds, ρ => bks_d ds ρ
/-- a call of a pure def -/
theorem ev_pure {K : PySem.W.Frag} [HasTabs K] {E : XK} {tas : TA} {ρ : Rh} {P : EPost} {A : List Dat → Dat → Prop} (h : AvP K E tas ρ (fun os ρ1 => ∃ ds d, os = ds.map Ow.d ∧ A ds d ∧ P (.ok (.d d)) ρ1) P) : EvP K E (tCall (spOf K (pureR A)) [] E tas) ρ P := by
  refine ev_call ?_
  intro D H T σ Q s k xo
  exact h D H T σ Q s (fun vs os ρ' D' H' q => k vs os ρ' D' H' (by
    obtain ⟨ds, d, e, a, q⟩ := q
    exact ⟨ds, d, e, a, by show P (.ok (.d d)) (bks (ds.map Ow.d) ρ'); rw [bks_d]; exact q⟩)) xo
theorem ev_fnr {K : PySem.W.Frag} [HasTabs K] {E : XK} {tas : TA} {ρ : Rh} {P : EPost} {A : List Ow → Ow → List Ow → Prop} (h : AvP K E tas ρ (fun os ρ1 => ∃ o us, A os o us ∧ P (.ok o) (bks us ρ1)) P) : EvP K E (tCall (spOf K (fnR A)) [] E tas) ρ P := ev_call h
theorem pms_d : ∀ (ds : List Dat) (ρ : Rh), ds.length ≤ ρ.length → Pms (ds.map Ow.d) ρ (ds.map Ow.d)
  | [], _, _ => .nil
  | _ :: ds, [], h => by simp at h
  | _ :: ds, x :: ρ, h => .dat (pms_d ds ρ (by simpa using h))
end DL

/-! ### I. forms that run by themselves -/
namespace DL
open PySem L2 Evl PySem.Spec PyProof.Rows
section
variable {K : PySem.W.Frag} [HasTabs K] {E : XK} {te ta tb tc td ty tv tx : TE} {tt tu : TT} {tas : TA} {ts tw : TS} {ρ : Rh} {P P' : EPost} {S : SPost} {o : Ow} {i : Nat}
theorem bnd_ok {k : Ow → Rh → Prop} (h : k o ρ) : bnd k P (.ok o) ρ := h
theorem bndS_ok {k : Ow → Rh → Prop} (h : k o ρ) : bndS k S (.ok o) ρ := h
theorem onE_ok {k : Ow → Rh → Prop} (h : k o ρ) : onE k (.ok o) ρ := h
theorem seq_nx {k : Rh → Prop} (h : k ρ) : seqS k S (.nx ρ) := h
theorem seq_rt {k : Rh → Prop} (h : S (.rt o ρ)) : seqS k S (.rt o ρ) := h
theorem seq_bk {k : Rh → Prop} (h : S (.bk ρ)) : seqS k S (.bk ρ) := h
theorem seq_ct {k : Rh → Prop} (h : S (.ct ρ)) : seqS k S (.ct ρ) := h
theorem onT_rt {k : Rh → Prop} (h : S (.rt o ρ)) : onT k S (.rt o ρ) := h
theorem onT_bk {k : Rh → Prop} (h : S (.nx ρ)) : onT k S (.bk ρ) := h
theorem onT_nx {k : Rh → Prop} {ρ' : Rh} (w : Wk ρ ρ') (h : k ρ') : onT k S (.nx ρ) := ⟨ρ', w, h⟩
theorem onT_ct {k : Rh → Prop} {ρ' : Rh} (w : Wk ρ ρ') (h : k ρ') : onT k S (.ct ρ) := ⟨ρ', w, h⟩
theorem resS_nx {os : List Ow} (h : S (.nx (bks os ρ))) : resS os S (.nx ρ) := h
theorem resS_rt {os : List Ow} (h : S (.rt o (bks os ρ))) : resS os S (.rt o ρ) := h
theorem ret_rt {os us : List Ow} {Pp : Re → List Ow → Prop} (m : Pms os ρ us) (h : Pp (.ok o) us) : retS os Pp (.rt o ρ) := ⟨us, m, h⟩
theorem ret_nx {os us : List Ow} {Pp : Re → List Ow → Prop} (m : Pms os ρ us) (h : Pp (.ok (.d .non)) us) : retS os Pp (.nx ρ) := ⟨us, m, h⟩
/-- ints in, an int out, a truth out -/
theorem ev_oZ0 {f : Int → Int → Int} (h : EvP K E ta ρ (bnd (fun x ρ1 => EvP K E tb ρ1 (bnd (fun y ρ2 => ∃ i j, x = .d (.int i) ∧ y = .d (.int j) ∧ P (.ok (.d (.int (f i j)))) ρ2) P)) P)) : EvP K E (tOp (rI0 fun i j => V.int (f i j)) ta tb) ρ P := by
  refine ev_op ?_
  refine h.mono fun r ρ1 q => ?_
  cases r with
  | ex C fs => exact q
  | ok x =>
    refine EvP.mono (P := _) q fun r ρ2 q => ?_
    cases r with
    | ex C fs => exact q
    | ok y =>
      obtain ⟨i, j, rfl, rfl, q⟩ := q
      exact ⟨rfl, rfl, _, aop_I0 rfl rfl, q⟩
theorem ev_oB0 {f : Int → Int → Bool} (h : EvP K E ta ρ (bnd (fun x ρ1 => EvP K E tb ρ1 (bnd (fun y ρ2 => ∃ i j, x = .d (.int i) ∧ y = .d (.int j) ∧ P (.ok (.d (.bl (f i j)))) ρ2) P)) P)) : EvP K E (tOp (rI0 fun i j => V.bl (f i j)) ta tb) ρ P := by
  refine ev_op ?_
  refine h.mono fun r ρ1 q => ?_
  cases r with
  | ex C fs => exact q
  | ok x =>
    refine EvP.mono (P := _) q fun r ρ2 q => ?_
    cases r with
    | ex C fs => exact q
    | ok y =>
      obtain ⟨i, j, rfl, rfl, q⟩ := q
      exact ⟨rfl, rfl, _, aop_I0 rfl rfl, q⟩
theorem ev_oZ {C : Int → Int → Prop} {f : Int → Int → Int} (h : EvP K E ta ρ (bnd (fun x ρ1 => EvP K E tb ρ1 (bnd (fun y ρ2 => ∃ i j, x = .d (.int i) ∧ y = .d (.int j) ∧ C i j ∧ P (.ok (.d (.int (f i j)))) ρ2) P)) P)) : EvP K E (tOp (rI C fun i j => V.int (f i j)) ta tb) ρ P := by
  refine ev_op ?_
  refine h.mono fun r ρ1 q => ?_
  cases r with
  | ex C fs => exact q
  | ok x =>
    refine EvP.mono (P := _) q fun r ρ2 q => ?_
    cases r with
    | ex C fs => exact q
    | ok y =>
      obtain ⟨i, j, rfl, rfl, c, q⟩ := q
      exact ⟨rfl, rfl, _, aop_I rfl rfl c, q⟩
theorem ev_neg {f : Int → Int} (h : EvP K E ta ρ (bnd (fun x ρ1 => ∃ i, x = .d (.int i) ∧ P (.ok (.d (.int (f i)))) ρ1) P)) : EvP K E (tUn (rU fun i => V.int (f i)) ta) ρ P := by
  refine ev_un ?_
  refine h.mono fun r ρ1 q => ?_
  cases r with
  | ex C fs => exact q
  | ok x =>
    obtain ⟨i, rfl, q⟩ := q
    exact ⟨rfl, _, ⟨rfl, fun H v Q h q => by cases h; exact ⟨i, rfl, q⟩⟩, q⟩
theorem ev_isN (h : EvP K E ta ρ (bnd (fun x ρ1 => ∃ d b, x = .d d ∧ (match d with | .non => true | _ => false) = b ∧ P (.ok (.d (.bl b))) ρ1) P)) : EvP K E (tOp rIsN ta (tC .non)) ρ P := by
  refine ev_op ?_
  refine h.mono fun r ρ1 q => ?_
  cases r with
  | ex C fs => exact q
  | ok x =>
    obtain ⟨d, b, rfl, e, q⟩ := q
    exact ev_n ⟨rfl, rfl, _, aop_isN e, q⟩
theorem ev_notN (h : EvP K E ta ρ (bnd (fun x ρ1 => ∃ d b, x = .d d ∧ (match d with | .non => false | _ => true) = b ∧ P (.ok (.d (.bl b))) ρ1) P)) : EvP K E (tOp rNotN ta (tC .non)) ρ P := by
  refine ev_op ?_
  refine h.mono fun r ρ1 q => ?_
  cases r with
  | ex C fs => exact q
  | ok x =>
    obtain ⟨d, b, rfl, e, q⟩ := q
    exact ev_n ⟨rfl, rfl, _, aop_notN e, q⟩
theorem ev_neI (h : EvP K E ta ρ (bnd (fun x ρ1 => EvP K E tb ρ1 (bnd (fun y ρ2 => ∃ i j, x = .d (.int i) ∧ y = .d (.int j) ∧ P (.ok (.d (.bl (!decide (i = j))))) ρ2) P)) P)) : EvP K E (tOp rNe ta tb) ρ P := by
  refine ev_op ?_
  refine h.mono fun r ρ1 q => ?_
  cases r with
  | ex C fs => exact q
  | ok x =>
    refine EvP.mono (P := _) q fun r ρ2 q => ?_
    cases r with
    | ex C fs => exact q
    | ok y =>
      obtain ⟨i, j, rfl, rfl, q⟩ := q
      exact ⟨rfl, rfl, _, aop_neI, q⟩
theorem ev_eqI (h : EvP K E ta ρ (bnd (fun x ρ1 => EvP K E tb ρ1 (bnd (fun y ρ2 => ∃ i j, x = .d (.int i) ∧ y = .d (.int j) ∧ P (.ok (.d (.bl (decide (i = j))))) ρ2) P)) P)) : EvP K E (tOp rEq ta tb) ρ P := by
  refine ev_op ?_
  refine h.mono fun r ρ1 q => ?_
  cases r with
  | ex C fs => exact q
  | ok x =>
    refine EvP.mono (P := _) q fun r ρ2 q => ?_
    cases r with
    | ex C fs => exact q
    | ok y =>
      obtain ⟨i, j, rfl, rfl, q⟩ := q
      exact ⟨rfl, rfl, _, aop_eqI, q⟩
/-- two comparisons in a row, of ints -/
theorem ev_chain {f g : Int → Int → Bool} (h : EvP K E ta ρ (bnd (fun x ρ1 => EvP K E tb ρ1 (bnd (fun y ρ2 => ∃ i j, x = .d (.int i) ∧ y = .d (.int j) ∧ (f i j = true → EvP K E tc ρ2 (bnd (fun z ρ3 => ∃ k, z = .d (.int k) ∧ P (.ok (.d (.bl (g j k)))) ρ3) P)) ∧ (f i j = false → P (.ok (.d (.bl false))) ρ2)) P)) P)) :
    EvP K E (tChain (rI0 fun i j => V.bl (f i j)) (rI0 fun i j => V.bl (g i j)) ta tb tc) ρ P := by
  intro D H T σ Q s k xo
  refine h D H T σ _ s (fun v x ρ1 D1 H1 q1 s1 => ?_) (xo.sub0 fun _ _ _ z => z)
  refine q1 D1 H1 _ σ _ s1 (fun w y ρ2 D2 H2 q2 s2 => ?_) (xo.sub1 fun _ _ _ z => z)
  obtain ⟨i, j, rfl, rfl, h1, h2⟩ := q2
  have hx := s2.tm (v, _) (List.mem_cons_of_mem _ List.mem_cons_self)
  have hy := s2.tm (w, _) List.mem_cons_self
  cases hx with
  | d hx =>
    cases hy with
    | d hy =>
      cases hx
      cases hy
      refine ⟨i, j, rfl, rfl, f i j, rfl, ?_⟩
      cases hf : f i j with
      | true =>
        rw [if_pos rfl]
        refine h1 hf D2 H2 _ σ _ s2.pop.pop (fun u z ρ3 D3 H3 q3 s3 => ?_) (xo.sub0 fun _ _ _ z => z)
        obtain ⟨k', rfl, q⟩ := q3
        have hz := s3.tm (u, _) List.mem_cons_self
        cases hz with
        | d hz =>
          cases hz
          exact ⟨j, k', rfl, rfl, k _ _ _ D3 H3 q (s3.pop.push (.bl _))⟩
      | false =>
        rw [if_neg Bool.false_ne_true]
        exact k _ _ _ D2 H2 (h2 hf) (s2.pop.pop.push (.bl _))
theorem tv_yes (q : P (.ok (.d (.bl true))) ρ) : TvP K E tYes ρ P := fun D H T σ Q s k _ => k true ρ D H q s
theorem AvP.mono {Pa Pb : List Ow → Rh → Prop} (h : AvP K E tas ρ Pa P) (m : ∀ os ρ', Pa os ρ' → Pb os ρ') : AvP K E tas ρ Pb P := fun D H T σ Q s k x => h D H T σ Q s (fun vs os ρ' D' H' q => k vs os ρ' D' H' (m _ _ q)) x
theorem ev_isi (h : AvP K E tas ρ (fun os ρ1 => ∃ x n m r, os = [.d x, .d (.ty m)] ∧ x.tyn = some n ∧ kitB n m = some r ∧ P (.ok (.d (.bl r))) ρ1) P) : EvP K E (tCB (rIsi K) tas) ρ P :=
  ev_cb (h.mono fun os ρ1 ⟨x, n, m, r, e, h1, h2, q⟩ => by subst e; exact ⟨rfl, _, acb_isi h1 h2, q⟩)
theorem ev_isiT (h : AvP K E tas ρ (fun os ρ1 => ∃ x n m1 m2 r1 r2, os = [.d x, .d (.tup [.ty m1, .ty m2])] ∧ x.tyn = some n ∧ kitB n m1 = some r1 ∧ kitB n m2 = some r2 ∧ P (.ok (.d (.bl (r1 || r2)))) ρ1) P) : EvP K E (tCB (rIsiT K) tas) ρ P :=
  ev_cb (h.mono fun os ρ1 ⟨x, n, m1, m2, r1, r2, e, h1, h2, h3, q⟩ => by subst e; exact ⟨rfl, _, acb_isiT h1 h2 h3, q⟩)
theorem ev_len (h : AvP K E tas ρ (fun os ρ1 => ∃ x t ds, os = [.d x] ∧ x.seq = some (t, ds) ∧ P (.ok (.d (.int ds.length))) ρ1) P) : EvP K E (tCB (rLenQ K) tas) ρ P :=
  ev_cb (h.mono fun os ρ1 ⟨x, t, ds, e, h1, q⟩ => by subst e; exact ⟨rfl, _, acb_len h1, q⟩)
theorem ev_lenS (h : AvP K E tas ρ (fun os ρ1 => ∃ ns, os = [.d (.scr ns)] ∧ P (.ok (.d (.int ns.length))) ρ1) P) : EvP K E (tCB (rLenQ K) tas) ρ P :=
  ev_cb (h.mono fun os ρ1 ⟨ns, e, q⟩ => by subst e; exact ⟨rfl, _, acb_lenS, q⟩)
theorem dats_len : ∀ os : List Ow, (dats os).length = os.length
  | [] => rfl
  | _ :: os => by
    show (dats os).length + 1 = os.length + 1
    rw [dats_len os]
/-- len of an owned list -/
theorem ev_lenO (h : AvP K E tas ρ (fun os ρ1 => ∃ a xs, os = [.l a xs] ∧ okRs xs = true ∧ P (.ok (.d (.int xs.length))) (bk (.l a xs) ρ1)) P) : EvP K E (tCB (rLenQ K) tas) ρ P :=
  ev_cb (h.mono fun os ρ1 ⟨a, xs, e, h1, q⟩ => by
    subst e
    refine ⟨by show (okRs xs && true) = true; rw [h1]; rfl, .int xs.length, ?_, q⟩
    have := acb_len (K := K) (x := .lst (dats xs)) (t := false) (ds := dats xs) rfl
    rw [dats_len] at this
    exact this)
theorem ev_all (h : AvP K E tas ρ (fun os ρ1 => ∃ bs : List Bool, os = [.d (.lst (bs.map Dat.bl))] ∧ P (.ok (.d (.bl (bs.all id)))) ρ1) P) : EvP K E (tCB (rAll K) tas) ρ P :=
  ev_cb (h.mono fun os ρ1 ⟨bs, e, q⟩ => by subst e; exact ⟨rfl, _, acb_all, q⟩)
theorem ev_sum (h : AvP K E tas ρ (fun os ρ1 => ∃ ns : List Int, os = [.d (.lst (ns.map Dat.int))] ∧ P (.ok (.d (.int ns.sum))) ρ1) P) : EvP K E (tCB (rSum K) tas) ρ P :=
  ev_cb (h.mono fun os ρ1 ⟨bs, e, q⟩ => by subst e; exact ⟨rfl, _, acb_sum, q⟩)
theorem ev_gcd (h : AvP K E tas ρ (fun os ρ1 => ∃ a b : Int, os = [.d (.int a), .d (.int b)] ∧ P (.ok (.d (.int ((Nat.gcd a.natAbs b.natAbs : Nat) : Int)))) ρ1) P) : EvP K E (tCB rGcd tas) ρ P :=
  ev_cb (h.mono fun os ρ1 ⟨a, b, e, q⟩ => by subst e; exact ⟨rfl, _, acb_gcd, q⟩)
theorem ev_lcm (h : AvP K E tas ρ (fun os ρ1 => ∃ a b : Int, os = [.d (.int a), .d (.int b)] ∧ a.natAbs < 2 ^ 64 ∧ b.natAbs < 2 ^ 64 ∧ P (.ok (.d (.int ((Nat.lcm a.natAbs b.natAbs : Nat) : Int)))) ρ1) P) : EvP K E (tCB rLcm tas) ρ P :=
  ev_cb (h.mono fun os ρ1 ⟨a, b, e, h1, h2, q⟩ => by subst e; exact ⟨rfl, _, acb_lcm h1 h2, q⟩)
theorem ev_abs (h : AvP K E tas ρ (fun os ρ1 => ∃ a : Int, os = [.d (.int a)] ∧ P (.ok (.d (.int (if a < 0 then -a else a)))) ρ1) P) : EvP K E (tCB rAbs tas) ρ P :=
  ev_cb (h.mono fun os ρ1 ⟨a, e, q⟩ => by subst e; exact ⟨rfl, _, acb_abs, q⟩)
theorem ev_int1 (h : AvP K E tas ρ (fun os ρ1 => ∃ a : Int, os = [.d (.int a)] ∧ P (.ok (.d (.int a))) ρ1) P) : EvP K E (tCB rInt1 tas) ρ P :=
  ev_cb (h.mono fun os ρ1 ⟨a, e, q⟩ => by subst e; exact ⟨rfl, _, acb_int, q⟩)
theorem ev_tupD (h : AvP K E tas ρ (fun os ρ1 => ∃ x t ds, os = [.d x] ∧ x.seq = some (t, ds) ∧ P (.ok (.d (.tup ds))) ρ1) P) : EvP K E (tCB (rTupO K) tas) ρ P :=
  ev_tuple (h.mono fun os ρ1 ⟨x, t, ds, e, h1, q⟩ => ⟨_, t, ds, e, .d h1, q⟩)
/-- tuple(x), x an owned list of data that a name or an expression hands in -/
theorem ev_tupO (h : AvP K E tas ρ (fun os ρ1 => ∃ (a : Addr) (ds : List Dat), os = [.l a (ds.map Ow.d)] ∧ P (.ok (.d (.tup ds))) (bk (.l a (ds.map Ow.d)) ρ1)) P) : EvP K E (tCB (rTupO K) tas) ρ P :=
  ev_tuple (h.mono fun os ρ1 ⟨a, ds, e, q⟩ => ⟨_, false, ds, e, .l, q⟩)
theorem ev_lstD (h : AvP K E tas ρ (fun os ρ1 => ∃ x t ds, os = [.d x] ∧ x.seq = some (t, ds) ∧ ds.length ≤ 100000 ∧ ∀ b, P (.ok (.l b (ds.map Ow.d))) ρ1) P) : EvP K E (tCB (rListO K) tas) ρ P :=
  ev_list (h.mono fun os ρ1 ⟨x, t, ds, e, h1, h2, q⟩ => ⟨_, t, ds, e, .d h1, h2, q⟩)
/-- a field of data -/
theorem ev_fldD {f : Str} (h : EvP K E ta ρ (bnd (fun o ρ1 => ∃ C gs d, o = .d (.obj C gs) ∧ Cls K C ∧ NoAttr K C f ∧ gs.lookup f = some d ∧ P (.ok (.d d)) ρ1) P)) : EvP K E (tFld K ta f) ρ P := by
  refine ev_fld (h.mono fun r ρ1 q => ?_)
  cases r with
  | ex C fs => exact q
  | ok o =>
    obtain ⟨C, gs, d, rfl, h1, h2, h3, q⟩ := q
    exact ⟨rfl, C, gs, d, rfl, h1, h2, h3, q⟩
/-- x[j], data -/
theorem ev_ixLd (h : EvP K E ta ρ (bnd (fun x ρ1 => EvP K E tb ρ1 (bnd (fun y ρ2 => ∃ ds j z, x = .d (.lst ds) ∧ y = .d (.int j) ∧ atI ds j = some z ∧ P (.ok (.d z)) ρ2) P)) P)) : EvP K E (tOp (rIxL K) ta tb) ρ P := by
  refine ev_ixL (h.mono fun r ρ1 q => ?_)
  cases r with
  | ex C fs => exact q
  | ok x =>
    refine EvP.mono (P := _) q fun r ρ2 q => ?_
    cases r with
    | ex C fs => exact q
    | ok y =>
      obtain ⟨ds, j, z, rfl, e, h1, q⟩ := q
      exact ⟨ds, j, z, .d rfl, e, h1, q⟩
theorem ev_ixTd (h : EvP K E ta ρ (bnd (fun x ρ1 => EvP K E tb ρ1 (bnd (fun y ρ2 => ∃ ds j z, x = .d (.tup ds) ∧ y = .d (.int j) ∧ atI ds j = some z ∧ P (.ok (.d z)) ρ2) P)) P)) : EvP K E (tOp (rIxT K) ta tb) ρ P := by
  refine ev_ixT (h.mono fun r ρ1 q => ?_)
  cases r with
  | ex C fs => exact q
  | ok x =>
    refine EvP.mono (P := _) q fun r ρ2 q => ?_
    cases r with
    | ex C fs => exact q
    | ok y =>
      obtain ⟨ds, j, z, rfl, e, h1, q⟩ := q
      exact ⟨ds, j, z, .d rfl, e, h1, q⟩
/-- x[j], x owned in slot i, its items data -/
theorem ev_ixO (h : EvP K E tb ρ (bnd (fun y ρ1 => ρ1 = ρ ∧ ∃ (a : Addr) (ds : List Dat) (j : Int) (z : Dat), ρ[i]? = some (some (.l a (ds.map Ow.d))) ∧ y = .d (.int j) ∧ atI ds j = some z ∧ P (.ok (.d z)) ρ) P)) (hi : ∃ (a : Addr) (ds : List Dat), ρ[i]? = some (some (.l a (ds.map Ow.d)))) : EvP K E (tOp (rIxL K) (tVar i) tb) ρ P := by
  intro D H T σ Q s k xo
  obtain ⟨a0, ds0, e0⟩ := hi
  obtain ⟨s0, _⟩ := s.getl e0
  refine ⟨.ref a0, s0, ?_⟩
  refine h D H T σ _ s (fun y z ρ1 D1 H1 q1 g => ?_) (xo.sub0 fun _ _ _ z => z)
  obtain ⟨rfl, a, ds, j, z, e, rfl, ha, q⟩ := q1
  have hy := g.tm (y, _) List.mem_cons_self
  cases hy with
  | d hy =>
    cases hy
    obtain ⟨_, vs, h1, h2⟩ := g.pop.getl e
    rw [e0] at e
    have ea : a0 = a := by injection e with e; injection e with e; injection e
    subst ea
    have g2 := h2.toAll
    have e2 : ∃ u, atI vs j = some u ∧ Den K D1 u z := by
      unfold atI at ha ⊢
      rw [g2.length]
      cases hj : ixN ds.length j with
      | none => rw [hj] at ha; cases ha
      | some n =>
        rw [hj] at ha
        obtain ⟨u, h1, h2⟩ := g2.get (show ds[n]? = some z from ha)
        exact ⟨u, h1, h2⟩
    obtain ⟨u, u1, u2⟩ := e2
    exact ⟨a0, vs, j, u, rfl, rfl, sq_of h1, u1, k _ _ _ D1 H1 q (g.pop.push u2)⟩
/-! comprehensions -/
theorem ev_frz (h : EvP K E te ρ (fun r ρ' => match r with | .ok o => ∃ (b : Addr) (ds : List Dat), o = .l b (ds.map Ow.d) ∧ P (.ok (.d (.lst ds))) ρ' | .ex C fs => P (.ex C fs) ρ')) : EvP K E te ρ P := by
  intro D H T σ Q s k xo
  refine h D H T σ _ s (fun v o ρ1 D1 H1 q1 s1 => ?_) (xo.sub0 fun _ _ _ z => z)
  obtain ⟨b, ds, rfl, q⟩ := q1
  have hv := s1.tm (v, _) List.mem_cons_self
  have e := root_ref (a := b) rfl hv
  subst e
  obtain ⟨D2, s2⟩ := s1.frz
  exact k _ _ _ D2 H1 q s2
theorem lcp_filter {α : Type} {g : TG} {ws vs : List Nat} {emb f : α → Dat} {c : α → Bool} {Pl : List Ow → Rh → Prop} : ∀ (xs : List α) (acc : List Ow),
    (∀ a ∈ xs, GvP K g ws ρ (emb a) (fun ρ2 => TvP K E0 tt ρ2 (onE fun o ρ3 => o = .d (.bl (c a)) ∧ wp ρ3 vs = ρ ∧ (c a = true → EvP K E0 te ρ3 (onE fun o ρ4 => o = .d (f a) ∧ wp ρ4 vs = ρ))))) →
    Pl (acc ++ ((xs.filter c).map f).map Ow.d) ρ → LcP K g ws tt te vs (xs.map emb) ρ acc Pl
  | [], acc, _, q => by
    show Pl acc ρ
    simpa using q
  | a :: xs, acc, h, q => by
    have ha := h a List.mem_cons_self
    intro D H T σ x Q s k
    refine ha D H T σ x Q s fun σ' ρ' D' H' z => k σ' ρ' D' H' ?_
    intro D2 H2 T2 σ2 Q2 s2 k2 xo2
    refine z D2 H2 T2 σ2 Q2 s2 (fun b ρ3 D3 H3 z3 => k2 b ρ3 D3 H3 ?_) .no
    obtain ⟨eb, ew, he⟩ := z3
    refine ⟨c a, eb, fun hc => ?_, fun hc => ?_⟩
    · refine EvP.mono (he hc) fun r ρ4 z4 => ?_
      cases r with
      | ex C fs => exact z4
      | ok o =>
        obtain ⟨rfl, ew4⟩ := z4
        show LcP K g ws tt te vs (xs.map emb) (wp ρ4 vs) (acc ++ [.d (f a)]) Pl
        rw [ew4]
        refine lcp_filter xs _ (fun b hb => h b (List.mem_cons_of_mem _ hb)) ?_
        rw [List.filter_cons_of_pos hc] at q
        simpa using q
    · rw [ew]
      refine lcp_filter xs _ (fun b hb => h b (List.mem_cons_of_mem _ hb)) ?_
      rw [List.filter_cons_of_neg (by rw [hc]; exact Bool.false_ne_true)] at q
      exact q
/-- over data that α names: which, and what -/
theorem ev_lcF {α : Type} {wi : TI} {g : TG} {ws vs : List Nat} (emb f : α → Dat) (c : α → Bool) (hws : ∀ j ∈ ws, j ∈ vs) (h : IvP K E wi ρ (fun ds os ρ1 => ∃ xs : List α, ds = xs.map emb ∧ xs.length ≤ 100000 ∧
    (∀ a ∈ xs, GvP K g ws (wp ρ1 vs) (emb a) (fun ρ2 => TvP K E0 tt ρ2 (onE fun o ρ3 => o = .d (.bl (c a)) ∧ wp ρ3 vs = wp ρ1 vs ∧ (c a = true → EvP K E0 te ρ3 (onE fun o ρ4 => o = .d (f a) ∧ wp ρ4 vs = wp ρ1 vs))))) ∧
    P (.ok (.d (.lst ((xs.filter c).map f)))) (bks os (wp ρ1 vs))) P) : EvP K E (tLc wi g tt te vs) ρ P := by
  refine ev_frz (ev_lc hws ?_)
  intro D H T σ R s k xo
  refine h D H T σ R s (fun J A ds ρ' D' H' q => k J A ds ρ' D' H' ?_) xo
  obtain ⟨xs, rfl, hl, hb, q⟩ := q
  refine ⟨by rw [List.length_map]; exact hl, lcp_filter xs [] hb ?_⟩
  intro b
  rw [wp_wp]
  exact ⟨b, _, rfl, q⟩
/-- .. all of them -/
theorem ev_lcM {α : Type} {wi : TI} {g : TG} {ws vs : List Nat} (emb f : α → Dat) (hws : ∀ j ∈ ws, j ∈ vs) (h : IvP K E wi ρ (fun ds os ρ1 => ∃ xs : List α, ds = xs.map emb ∧ xs.length ≤ 100000 ∧
    (∀ a ∈ xs, GvP K g ws (wp ρ1 vs) (emb a) (fun ρ2 => wp ρ2 vs = wp ρ1 vs ∧ EvP K E0 te ρ2 (onE fun o ρ4 => o = .d (f a) ∧ wp ρ4 vs = wp ρ1 vs))) ∧
    P (.ok (.d (.lst (xs.map f)))) (bks os (wp ρ1 vs))) P) : EvP K E (tLc wi g tYes te vs) ρ P := by
  refine ev_lcF emb f (fun _ => true) hws ?_
  intro D H T σ R s k xo
  refine h D H T σ R s (fun J A ds ρ' D' H' q => k J A ds ρ' D' H' ?_) xo
  obtain ⟨xs, e, hl, hb, q⟩ := q
  refine ⟨xs, e, hl, fun a ha => ?_, by rw [List.filter_eq_self.mpr (fun _ _ => rfl)]; exact q⟩
  intro D2 H2 T2 σ2 x Q s2 k2
  exact hb a ha D2 H2 T2 σ2 x Q s2 fun σ' ρ' D' H' z => k2 σ' ρ' D' H' (tv_yes ⟨rfl, z.1, fun _ => z.2⟩)
/-- results told one by one (owned ones too) -/
inductive All2 {α β : Type} (R : α → β → Prop) : List α → List β → Prop
  | nil : All2 R [] []
  | cons {a : α} {b : β} {as : List α} {bs : List β} : R a b → All2 R as bs → All2 R (a :: as) (b :: bs)
theorem lcp_rel {α : Type} {g : TG} {ws vs : List Nat} {emb : α → Dat} {R : α → Ow → Prop} {Pl : List Ow → Rh → Prop} : ∀ (xs : List α) (acc : List Ow),
    (∀ a ∈ xs, GvP K g ws ρ (emb a) (fun ρ2 => EvP K E0 te ρ2 (onE fun o ρ4 => R a o ∧ wp ρ4 vs = ρ))) →
    (∀ os, All2 R xs os → Pl (acc ++ os) ρ) → LcP K g ws tYes te vs (xs.map emb) ρ acc Pl
  | [], acc, _, q => by
    show Pl acc ρ
    simpa using q [] .nil
  | a :: xs, acc, h, q => by
    intro D H T σ x Q s k
    refine h a List.mem_cons_self D H T σ x Q s fun σ' ρ' D' H' z => k σ' ρ' D' H' ?_
    refine tv_yes ⟨true, rfl, fun _ => ?_, fun e => by cases e⟩
    refine EvP.mono z fun r ρ4 z4 => ?_
    cases r with
    | ex C fs => exact z4
    | ok o =>
      obtain ⟨ro, ew4⟩ := z4
      show LcP K g ws tYes te vs (xs.map emb) (wp ρ4 vs) (acc ++ [o]) Pl
      rw [ew4]
      exact lcp_rel xs _ (fun b hb => h b (List.mem_cons_of_mem _ hb)) fun os ho => by
        have := q (o :: os) (.cons ro ho)
        simpa using this
theorem ev_lcR {α : Type} {wi : TI} {g : TG} {ws vs : List Nat} (emb : α → Dat) (R : α → Ow → Prop) (hws : ∀ j ∈ ws, j ∈ vs) (h : IvP K E wi ρ (fun ds os ρ1 => ∃ xs : List α, ds = xs.map emb ∧ xs.length ≤ 100000 ∧
    (∀ a ∈ xs, GvP K g ws (wp ρ1 vs) (emb a) (fun ρ2 => EvP K E0 te ρ2 (onE fun o ρ4 => R a o ∧ wp ρ4 vs = wp ρ1 vs))) ∧
    (∀ rs, All2 R xs rs → ∀ b, P (.ok (.l b rs)) (bks os (wp ρ1 vs)))) P) : EvP K E (tLc wi g tYes te vs) ρ P := by
  refine ev_lc hws ?_
  intro D H T σ R' s k xo
  refine h D H T σ R' s (fun J A ds ρ' D' H' q => k J A ds ρ' D' H' ?_) xo
  obtain ⟨xs, rfl, hl, hb, q⟩ := q
  refine ⟨by rw [List.length_map]; exact hl, lcp_rel xs [] hb fun rs hr b => ?_⟩
  rw [wp_wp]
  exact q rs hr b
theorem iv_listD {tl : TE} {Pi : List Dat → List Ow → Rh → Prop} (h : EvP K E tl ρ (bnd (fun o ρ1 => ∃ ds, o = .d (.lst ds) ∧ Pi ds [o] ρ1) P)) : IvP K E (iList K tl) ρ Pi P := by
  refine iv_list (h.mono fun r ρ1 q => ?_)
  cases r with
  | ex C fs => exact q
  | ok o =>
    obtain ⟨ds, rfl, q⟩ := q
    exact ⟨ds, rfl, rfl, fun x y z => Ow.noConfusion z, trivial, q⟩
end
end DL

/-! ### J. lists or tuples; owned rows -/
namespace DL
open PySem L2 Evl PySem.Spec PyProof.Rows
def iAny (K : PySem.W.Frag) (tl : TE) : TI := fun σ H R => tl σ H fun x H1 => ∃ a, x = .ref a ∧ (((∃ xs, SqL K H1 a xs) ∧ R (Itl K a) H1) ∨ ((∃ xs, SqT K H1 a xs) ∧ R (Itt K a) H1))
theorem pi_any {X : Cx} {tg l : Expr} {tl : TE} (hl : PE X l tl) : PI X tg l (iAny X.K tl) := by
  refine ⟨fun pins s σ H R I h => ?_⟩
  refine thn (hl.run pins s σ H _ I h) fun v s1 ⟨x, H1, I1, r1, q1⟩ => ?_
  obtain ⟨a, e, q1⟩ := q1
  subst e
  cases r1
  have fp : ∀ b ∈ [s1.heap.objs.size], FpOk X pins H1 b := fun b hb => by
    have e : b = s1.heap.objs.size := by simpa using hb
    subst e
    exact I1.fpOk (Nat.le_refl _) (I1.hok.fresh (Nat.le_refl _))
  rcases q1 with ⟨⟨xs, hq⟩, q⟩ | ⟨⟨xs, hq⟩, q⟩
  · obtain ⟨its, rv, p, hz⟩ := I1.list hq
    refine wpAny_pyIter_list p.isList ?_
    exact ⟨s1.heap.objs.size, [s1.heap.objs.size], _, _, H1, rfl, I1.kept (t' := s1.toks) fun b o e => Heap.get?_push_of_some _ e, turn_list a _, ⟨_, Heap.get?_push_size _ rfl, rfl, rfl⟩, fp, q⟩
  · obtain ⟨its, rv, p, hz⟩ := I1.tuple hq
    refine wpAny_pyIter_tuple (show s1.heap.IsTuple a its.toArray from p) ?_
    exact ⟨s1.heap.objs.size, [s1.heap.objs.size], _, _, H1, rfl, I1.kept (t' := s1.toks) fun b o e => Heap.get?_push_of_some _ e, turn_tuple a _, ⟨_, Heap.get?_push_size _ rfl, rfl, rfl⟩, fp, q⟩
theorem pi_anyK {X : Cx} {K : PySem.W.Frag} [HasTabs K] {tg l : Expr} {tl : TE} (hK : X.K = K) (hl : PE X l tl) : PI X tg l (iAny K tl) := by
  subst hK
  exact pi_any hl
theorem pi_enumK {X : Cx} {K : PySem.W.Frag} [HasTabs K] {e : Expr} {ta : TA} {p pos tpos : Pos} {elts : List Expr} {kk : Nat} (hK : X.K = K) (hg : Gl X "enumerate") (hm : X.mg "enumerate" = none) (ha : PA X [e] ta) (hs : starEach [e] X.env = [(false, eval e X.env)] := by rfl) :
    PI X (.Tuple elts kk tpos) (.Call (.Name "enumerate" p) [e] [] pos) (iEnumB K ta) := by
  subst hK
  exact pi_enumB hg hm ha hs
theorem pi_zipK {X : Cx} {K : PySem.W.Frag} [HasTabs K] {e e2 : Expr} {ta : TA} {p pos tpos : Pos} {elts : List Expr} {kk : Nat} (hK : X.K = K) (hg : Gl X "zip") (hm : X.mg "zip" = none) (ha : PA X [e, e2] ta)
    (hs : starEach [e, e2] X.env = (false, eval e X.env) :: starEach [e2] X.env := by rfl) (hpl : (backTo pos (starEach [e2] X.env)).any (·.1) = false := by rfl) :
    PI X (.Tuple elts kk tpos) (.Call (.Name "zip" p) [e, e2] [] pos) (iZipB K ta) := by
  subst hK
  exact pi_zipB hg hm ha hs hpl
theorem pe_const {X : Cx} {x : Str} {n : Int} {pos : Pos} (h : ∃ t, X.mg x = some (.int n t)) (hg : Gl X x) (hdb : (x == ("__debug__" : Str)) = false := by decide) : PE X (.Name x pos) (tC (.int n)) := by
  obtain ⟨t, h⟩ := h
  exact pe_glob hg h ⟨t, rfl⟩ (by exact hdb)
section
variable {K : PySem.W.Frag} [HasTabs K] {E : XK} {te ta tb tc td ty tv tx tj tk tl : TE} {tt tu : TT} {tas : TA} {ts tw : TS} {ρ : Rh} {P P' : EPost} {S : SPost} {o : Ow} {i : Nat}
theorem iv_any {Pi : List Dat → List Ow → Rh → Prop} (h : EvP K E tl ρ (bnd (fun o ρ1 => ∃ x t ds, o = .d x ∧ x.seq = some (t, ds) ∧ Pi ds [o] ρ1) P)) : IvP K E (iAny K tl) ρ Pi P := by
  intro D H T σ R s k xo
  refine h D H T σ _ s (fun v x ρ1 D1 H1 q1 s1 => ?_) (xo.sub0 fun _ _ _ z => z)
  obtain ⟨y, t, ds, rfl, e, q⟩ := q1
  have rd : ∀ D2 H2, Ex D2 H2 → DenO K D2 H2 v (.d y) → ∃ a vs, v = .ref a ∧ SqB t K H2 a vs ∧ DenAll K D2 vs ds := fun D2 H2 e2 g => by
    cases g with
    | d g => exact den_seq e e2 g
  obtain ⟨a, vs, rfl, hS, hA⟩ := rd D1 H1 s1.ex (s1.tm (v, _) List.mem_cons_self)
  refine ⟨a, rfl, ?_⟩
  cases t with
  | false =>
    refine .inl ⟨⟨vs, hS⟩, k (Itl K a) [(.ref a, .d y)] ds ρ1 D1 H1 q (fun D2 H2 e2 g => ?_) s1⟩
    obtain ⟨b, ws, eb, hS2, hA2⟩ := rd D2 H2 e2 (g _ List.mem_cons_self)
    cases eb
    have hl := hA2.length
    refine ⟨fun i hi => ⟨ws, ws[i]'(by omega), hS2, by simp [show i < ws.length by omega]⟩, ⟨ws, hS2, by omega⟩, fun i y H' hi hy => ?_⟩
    obtain ⟨rfl, hy⟩ := hy
    obtain ⟨d, h1, h2⟩ := hA2.getv (hy ws hS2)
    exact ⟨d, h1, .inl ⟨rfl, h2⟩⟩
  | true =>
    refine .inr ⟨⟨vs, hS⟩, k (Itt K a) [(.ref a, .d y)] ds ρ1 D1 H1 q (fun D2 H2 e2 g => ?_) s1⟩
    obtain ⟨b, ws, eb, hS2, hA2⟩ := rd D2 H2 e2 (g _ List.mem_cons_self)
    cases eb
    have hl := hA2.length
    refine ⟨fun i hi => ⟨ws, ws[i]'(by omega), hS2, by simp [show i < ws.length by omega]⟩, ⟨ws, hS2, by omega⟩, fun i y H' hi hy => ?_⟩
    obtain ⟨rfl, hy⟩ := hy
    obtain ⟨d, h1, h2⟩ := hA2.getv (hy ws hS2)
    exact ⟨d, h1, .inl ⟨rfl, h2⟩⟩
/-- x[j] of a sequence of data -/
theorem ev_ixS (h : EvP K E ta ρ (bnd (fun x ρ1 => EvP K E tb ρ1 (bnd (fun y ρ2 => ∃ d t ds j z, x = .d d ∧ y = .d (.int j) ∧ d.seq = some (t, ds) ∧ atI ds j = some z ∧ P (.ok (.d z)) ρ2) P)) P)) : EvP K E (tOp (rIx K) ta tb) ρ P := by
  intro D H T σ Q s k xo
  refine h D H T σ _ s (fun v x ρ1 D1 H1 q1 s1 => ?_) (xo.sub0 fun _ _ _ z => z)
  refine q1 D1 H1 _ σ _ s1 (fun w y ρ2 D2 H2 q2 s2 => ?_) (xo.sub1 fun _ _ _ z => z)
  obtain ⟨d, t, ds, j, z, rfl, rfl, e, ha, q⟩ := q2
  have hx := s2.tm (v, _) (List.mem_cons_of_mem _ List.mem_cons_self)
  have hy := s2.tm (w, _) List.mem_cons_self
  cases hx with
  | d hx =>
    cases hy with
    | d hy =>
      cases hy
      obtain ⟨a, vs, rfl, g1, g2⟩ := den_seq e s2.ex hx
      have e2 : ∃ u, atI vs j = some u ∧ Den K D2 u z := by
        unfold atI at ha ⊢
        rw [g2.length]
        cases hj : ixN ds.length j with
        | none => rw [hj] at ha; cases ha
        | some n =>
          rw [hj] at ha
          obtain ⟨u, h1, h2⟩ := g2.get (show ds[n]? = some z from ha)
          exact ⟨u, h1, h2⟩
      obtain ⟨u, u1, u2⟩ := e2
      have fin := k _ _ _ D2 H2 q (s2.pop.pop.push u2)
      cases t with
      | false => exact .inl ⟨a, vs, j, u, rfl, rfl, g1, u1, fin⟩
      | true => exact .inr (.inl ⟨a, vs, j, u, rfl, rfl, g1, u1, fin⟩)
/-! isinstance by the class's name -/
def Dat.isInt : Dat → Bool
  | .int _ => true
  | .bl _ => true
  | _ => false
def Dat.isBool : Dat → Bool
  | .bl _ => true
  | _ => false
def Dat.isSeq : Dat → Bool
  | .lst _ => true
  | .tup _ => true
  | _ => false
theorem kb {n m : String} {r : Bool} (h : kitB n m = some r) : kitB n m = some r := h
theorem isi_int {x : Dat} (h : x.tyn.isSome = true) : ∃ n, x.tyn = some n ∧ kitB n "int" = some x.isInt := by
  cases x with
  | non => exact ⟨_, rfl, by decide +kernel⟩
  | bl b => exact ⟨_, rfl, by show _ = some true; decide +kernel⟩
  | int i => exact ⟨_, rfl, by show _ = some true; decide +kernel⟩
  | str s => exact ⟨_, rfl, by show _ = some false; decide +kernel⟩
  | lst xs => exact ⟨_, rfl, by show _ = some false; decide +kernel⟩
  | tup xs => exact ⟨_, rfl, by show _ = some false; decide +kernel⟩
  | obj _ _ => cases h
  | ty _ => cases h
  | scr _ => cases h
theorem isi_bool {x : Dat} (h : x.tyn.isSome = true) : ∃ n, x.tyn = some n ∧ kitB n "bool" = some x.isBool := by
  cases x with
  | non => exact ⟨_, rfl, by decide +kernel⟩
  | bl b => exact ⟨_, rfl, by show _ = some true; decide +kernel⟩
  | int i => exact ⟨_, rfl, by show _ = some false; decide +kernel⟩
  | str s => exact ⟨_, rfl, by show _ = some false; decide +kernel⟩
  | lst xs => exact ⟨_, rfl, by show _ = some false; decide +kernel⟩
  | tup xs => exact ⟨_, rfl, by show _ = some false; decide +kernel⟩
  | obj _ _ => cases h
  | ty _ => cases h
  | scr _ => cases h
theorem isi_seq {x : Dat} (h : x.tyn.isSome = true) : ∃ n r1 r2, x.tyn = some n ∧ kitB n "list" = some r1 ∧ kitB n "tuple" = some r2 ∧ (r1 || r2) = x.isSeq := by
  cases x with
  | non => exact ⟨_, false, false, rfl, by decide +kernel, by decide +kernel, rfl⟩
  | bl b => exact ⟨_, false, false, rfl, by decide +kernel, by decide +kernel, rfl⟩
  | int i => exact ⟨_, false, false, rfl, by decide +kernel, by decide +kernel, rfl⟩
  | str s => exact ⟨_, false, false, rfl, by decide +kernel, by decide +kernel, rfl⟩
  | lst xs => exact ⟨_, true, false, rfl, by decide +kernel, by decide +kernel, rfl⟩
  | tup xs => exact ⟨_, false, true, rfl, by decide +kernel, by decide +kernel, rfl⟩
  | obj _ _ => cases h
  | ty _ => cases h
  | scr _ => cases h
theorem ev_isiInt (h : EvP K E ta ρ (bnd (fun o ρ1 => ∃ x, o = .d x ∧ x.tyn.isSome = true ∧ P (.ok (.d (.bl x.isInt))) ρ1) P)) : EvP K E (tCB (rIsi K) (tCons ta (tCons (tC (.ty "int")) tNil))) ρ P := by
  refine ev_isi (av_cons (h.mono fun r ρ1 q => ?_))
  cases r with
  | ex C fs => exact q
  | ok o =>
    obtain ⟨x, rfl, hx, q⟩ := q
    obtain ⟨n, h1, h2⟩ := isi_int hx
    exact av_cons (ev_c (x := .ty _) rfl rfl (av_nil ⟨x, n, _, _, rfl, h1, h2, q⟩))
theorem ev_isiBool (h : EvP K E ta ρ (bnd (fun o ρ1 => ∃ x, o = .d x ∧ x.tyn.isSome = true ∧ P (.ok (.d (.bl x.isBool))) ρ1) P)) : EvP K E (tCB (rIsi K) (tCons ta (tCons (tC (.ty "bool")) tNil))) ρ P := by
  refine ev_isi (av_cons (h.mono fun r ρ1 q => ?_))
  cases r with
  | ex C fs => exact q
  | ok o =>
    obtain ⟨x, rfl, hx, q⟩ := q
    obtain ⟨n, h1, h2⟩ := isi_bool hx
    exact av_cons (ev_c (x := .ty _) rfl rfl (av_nil ⟨x, n, _, _, rfl, h1, h2, q⟩))
theorem ev_isiSeq (h : EvP K E ta ρ (bnd (fun o ρ1 => ∃ x, o = .d x ∧ x.tyn.isSome = true ∧ P (.ok (.d (.bl x.isSeq))) ρ1) P)) : EvP K E (tCB (rIsiT K) (tCons ta (tCons (tTup (tCons (tC (.ty "list")) (tCons (tC (.ty "tuple")) tNil))) tNil))) ρ P := by
  refine ev_isiT (av_cons (h.mono fun r ρ1 q => ?_))
  cases r with
  | ex C fs => exact q
  | ok o =>
    obtain ⟨x, rfl, hx, q⟩ := q
    obtain ⟨n, r1, r2, h1, h2, h3, h4⟩ := isi_seq hx
    refine av_cons (ev_tup (ds := []) (av_cons (ev_c (x := .ty _) rfl rfl (av_cons (ev_c (x := .ty _) rfl rfl (av_nil ⟨[.ty _, .ty _], rfl, by decide, ?_⟩))))))
    exact av_nil ⟨x, n, _, _, r1, r2, rfl, h1, h2, h3, by rw [h4]; exact q⟩
/-! owned rows -/
/-- x[j][k], x owned in slot i, x[j] owned, its items data; j and k leave the state -/
theorem ev_ixO2 (hi : ∃ a xs, ρ[i]? = some (some (.l a xs))) (h : EvP K E tj ρ (bnd (fun y ρ1 => ρ1 = ρ ∧ ∃ (a b : Addr) (xs : List Ow) (ds : List Dat) (j : Nat), y = .d (.int ((j : Nat) : Int)) ∧ ρ[i]? = some (some (.l a xs)) ∧ xs[j]? = some (.l b (ds.map Ow.d)) ∧
    EvP K E tk ρ (bnd (fun z ρ2 => ρ2 = ρ ∧ ∃ (k : Int) (w : Dat), z = .d (.int k) ∧ atI ds k = some w ∧ P (.ok (.d w)) ρ) P)) P)) : EvP K E (tOp (rIxL K) (tOp (rIxL K) (tVar i) tj) tk) ρ P := by
  intro D H T σ Q s k xo
  obtain ⟨a0, xs0, e0⟩ := hi
  obtain ⟨s0, _⟩ := s.getl e0
  refine ⟨.ref a0, s0, ?_⟩
  refine h D H T σ _ s (fun y z ρ1 D1 H1 q1 g => ?_) (xo.sub0 fun _ _ _ z => z)
  obtain ⟨rfl, a, b, xs, ds, j, rfl, e, ej, q⟩ := q1
  rw [e0] at e
  cases e
  have hy := g.tm (y, _) List.mem_cons_self
  cases hy with
  | d hy =>
    cases hy
    obtain ⟨_, vs, ha, hv⟩ := g.pop.getl e0
    obtain ⟨w, hw, qw⟩ := hv.get ej
    have hwr : w = .ref b := root_ref rfl qw
    subst hwr
    refine ⟨a0, vs, j, .ref b, rfl, rfl, sq_of ha, at_nat hw, ?_⟩
    refine q D1 H1 T σ _ g.pop (fun u z ρ2 D2 H2 q2 g2 => ?_) (xo.sub0 fun _ _ _ z => z)
    obtain ⟨rfl, kk, x, rfl, hx, q⟩ := q2
    have hu := g2.tm (u, _) List.mem_cons_self
    cases hu with
    | d hu =>
      cases hu
      obtain ⟨_, vs2, ha2, hv2⟩ := g2.pop.getl e0
      obtain ⟨w2, hw2, qw2⟩ := hv2.get ej
      cases qw2 with
      | l c1 c2 =>
        rename_i us
        have g3 := c2.toAll
        have e2 : ∃ u, atI us kk = some u ∧ Den K D2 u x := by
          unfold atI at hx ⊢
          rw [g3.length]
          cases hj : ixN ds.length kk with
          | none => rw [hj] at hx; cases hx
          | some n =>
            rw [hj] at hx
            obtain ⟨u, h1, h2⟩ := g3.get (show ds[n]? = some x from hx)
            exact ⟨u, h1, h2⟩
        obtain ⟨u3, u1, u2⟩ := e2
        exact ⟨b, us, kk, u3, rfl, rfl, sq_of c1, u1, k _ _ _ D2 H2 q (g2.pop.push u2)⟩
/-- an item of an owned list steps into a slot, and back -/
theorem Sd.inSlot {D H : Hp} {T : Tm} {σ : L2.St} {a b : Addr} {xs ys : List Ow} {j r : Nat} (h : Sd K D H ((.ref a, .l a xs) :: T) σ ρ) (e : xs[j]? = some (.l b ys)) (hr : r < σ.length) :
    Sd K D H ((.ref a, .l a (xs.set j (.m b))) :: T) (σ.set r (some (.ref b))) (ρ.set r (some (.l b ys))) := (h.focus e rfl).toSlot r hr
theorem Sd.outSlot {D H : Hp} {T : Tm} {σ : L2.St} {a b : Addr} {xs ys : List Ow} {j r : Nat} (h : Sd K D H ((.ref a, .l a (xs.set j (.m b))) :: T) σ ρ) (hj : j < xs.length) (e : ρ[r]? = some (some (.l b ys))) :
    Sd K D H ((.ref a, .l a (xs.set j (.l b ys))) :: T) σ (ρ.set r (some (.m b))) := by
  obtain ⟨_, g⟩ := h.move e rfl
  have := g.unfocus (b := b) (j := j) (by rw [List.getElem?_set_self hj]) rfl
  rw [List.set_set] at this
  exact this
theorem ev_lcO2 {r : Nat} {vs : List Nat} {α : Type} (emb : α → List Dat) (f : α → Dat) (hr : r ∈ vs) (hi : ∃ (a : Addr) (xs : List Ow), ρ[i]? = some (some (.l a xs)) ∧ i ∉ vs ∧ r < ρ.length ∧ ∃ zs : List α, zs.length ≤ 100000 ∧ All2 (fun z o => ∃ b, o = Ow.l b ((emb z).map Ow.d)) zs xs ∧
    (∀ z ∈ zs, ∀ b, EvP K E0 te ((wp (ρ.set i (some (.m a))) vs).set r (some (.l b ((emb z).map Ow.d)))) (onE fun o ρ4 => o = .d (f z) ∧ ρ4 = (wp (ρ.set i (some (.m a))) vs).set r (some (.l b ((emb z).map Ow.d))))) ∧
    P (.ok (.d (.lst (zs.map f)))) (bkG (.l a xs) a (wp (ρ.set i (some (.m a))) vs))) : EvP K E (tLc (iAny K (tVar i)) (gName r) tYes te vs) ρ P := by
  refine ev_frz ?_
  intro D H T σ Q s k xo
  obtain ⟨a, xs, e, hiv, hrl, zs, hlen, hall, hbody, q⟩ := hi
  obtain ⟨s0, vs0, ha0, hv0⟩ := s.getl e
  refine ⟨.ref a, s0, a, rfl, .inl ⟨⟨vs0, sq_of ha0⟩, ?_⟩⟩
  intro Dl hD
  obtain ⟨_, s1⟩ := s.move e rfl
  have hlen2 : zs.length = xs.length := by
    have : ∀ {zs : List α} {xs : List Ow}, All2 (fun z o => ∃ b, o = Ow.l b ((emb z).map Ow.d)) zs xs → zs.length = xs.length := by
      intro zs xs h
      induction h with
      | nil => rfl
      | cons _ _ ih => simp [ih]
    exact this hall
  have getA : ∀ {j : Nat} {z : α}, zs[j]? = some z → ∃ b, xs[j]? = some (.l b ((emb z).map Ow.d)) := by
    have : ∀ {zs : List α} {xs : List Ow}, All2 (fun z o => ∃ b, o = Ow.l b ((emb z).map Ow.d)) zs xs → ∀ {j : Nat} {z : α}, zs[j]? = some z → ∃ b, xs[j]? = some (.l b ((emb z).map Ow.d)) := by
      intro zs xs h
      induction h with
      | nil => intro j z hz; simp at hz
      | cons r t ih =>
        intro j z hz
        cases j with
        | zero => simp at hz; subst hz; obtain ⟨b, hb⟩ := r; exact ⟨b, by rw [hb]; rfl⟩
        | succ j => exact ih (by simpa using hz)
    intro j z h
    exact this hall h
  have s2 : Sd K D (upd H Dl (.lst [])) ((.ref Dl, .l Dl []) :: (.ref a, .l a xs) :: T) σ (ρ.set i (some (.m a))) := Sd.own (vs := []) (os := []) s1 rfl hD
  refine ⟨fun j m H' => j + m = zs.length ∧ ∃ D', Sd K D' H' ((.ref Dl, .l Dl (((zs.take j).map f).map Ow.d)) :: (.ref a, .l a xs) :: T) (L2.wipe σ vs) (wp (ρ.set i (some (.m a))) vs), ⟨zs.length, by omega, D, s2.wipe vs⟩, ?_⟩
  rintro j m H' ⟨hm, D', s3⟩
  have hA := s3.tm (.ref a, .l a xs) (List.mem_cons_of_mem _ List.mem_cons_self)
  cases hA with
  | l g1 g2 =>
    rename_i ws
    have hws := g2.length
    by_cases hj : j < zs.length
    · refine .inr ⟨⟨ws, ws[j]'(by omega), sq_of g1, by simp [show j < ws.length by omega]⟩, fun H2 => ∃ D2, Sd K D2 H2 ((.ref Dl, .l Dl (((zs.take (j + 1)).map f).map Ow.d)) :: (.ref a, .l a xs) :: T) (L2.wipe σ vs) (wp (ρ.set i (some (.m a))) vs), fun H2 ⟨D2, z⟩ => ⟨m - 1, by omega, by omega, D2, z⟩, fun x H2 y => ?_⟩
      obtain ⟨rfl, hx⟩ := y
      obtain ⟨b, hb⟩ := getA (List.getElem?_eq_getElem hj)
      have hxj := hx ws (sq_of g1)
      obtain ⟨w, hw, qw⟩ := g2.get hb
      rw [hxj] at hw
      have hwx : x = w := Option.some.inj hw
      have hxr : x = .ref b := by rw [hwx]; exact root_ref rfl qw
      subst hxr
      have hrs : r < (L2.wipe σ vs).length := by rw [wipe_length, s.len]; exact hrl
      have s4 := (s3.perm (List.Perm.swap _ _ _)).inSlot hb hrs
      refine ⟨(wipe_set hr).trans (wipe_wipe vs σ), ?_⟩
      simp only [tYes, if_true]
      have bd := hbody zs[j] (List.getElem_mem hj) b
      refine bd D' H2 _ _ _ s4 (fun y o ρ4 D4 H4 q4 s5 => ?_) .no
      obtain ⟨rfl, rfl⟩ := q4
      have hlr : r < (wp (ρ.set i (some (.m a))) vs).length := by rw [← s3.len]; exact hrs
      have s6 := (s5.perm ((List.Perm.swap _ _ _))).outSlot (by have := (List.getElem?_eq_some_iff.mp hb).1; exact this) (by rw [List.getElem?_set_self hlr])
      have exs : xs.set j (.l b ((emb zs[j]).map Ow.d)) = xs := by
        obtain ⟨l, hl⟩ := List.getElem?_eq_some_iff.mp hb
        rw [← hl]
        exact List.set_getElem_self l
      rw [exs, List.set_set] at s6
      have s7 := s6.forget r
      rw [List.set_set] at s7
      have ewp : (wp (ρ.set i (some (.m a))) vs).set r none = wp (ρ.set i (some (.m a))) vs := by
        have st : ∀ (us : List Nat) (ρ : Rh), r ∈ us → (wp ρ us).set r none = wp ρ us := by
          intro us
          induction us with
          | nil => intro ρ h; simp at h
          | cons u us ih =>
            intro ρ h
            show ((wp ρ us).set u none).set r none = (wp ρ us).set u none
            by_cases e : u = r
            · subst e; rw [List.set_set]
            · rw [List.set_comm _ _ e, ih ρ (by simpa [Ne.symm e] using h)]
        exact st vs _ hr
      rw [ewp] at s7
      have s8 : Sd K D4 H4 ((y, .d (f zs[j])) :: (.ref Dl, .l Dl (((zs.take j).map f).map Ow.d)) :: (.ref a, .l a xs) :: T) (L2.wipe σ vs) (wp (ρ.set i (some (.m a))) vs) := by
        have s9 : Sd K D4 H4 ((.ref a, .l a xs) :: (y, .d (f zs[j])) :: (.ref Dl, .l Dl (((zs.take j).map f).map Ow.d)) :: T) (L2.wipe σ vs) (wp (ρ.set i (some (.m a))) vs) := by
          have sl := s7.sl
          have : Slots K D4 H4 (L2.wipe σ vs) (wp (ρ.set i (some (.m a))) vs) := by
            have w1 := Slots.wipe1 r sl
            rw [ewp, List.set_set] at w1
            have e5 : (L2.wipe σ vs).set r none = L2.wipe σ vs := by
              have st : ∀ (us : List Nat) (σ : L2.St), r ∈ us → (L2.wipe σ us).set r none = L2.wipe σ us := by
                intro us
                induction us with
                | nil => intro σ h; simp at h
                | cons u us ih =>
                  intro σ h
                  show ((L2.wipe σ us).set u none).set r none = (L2.wipe σ us).set u none
                  by_cases e : u = r
                  · subst e; rw [List.set_set]
                  · rw [List.set_comm _ _ e, ih σ (by simpa [Ne.symm e] using h)]
              exact st vs _ hr
            rw [e5] at w1
            exact w1
          exact ⟨s7.ex, s7.tm, this, s7.nd, s7.out, s7.tb⟩
        exact s9.perm ((List.Perm.swap _ _ _).trans ((List.Perm.swap _ _ _).cons _))
      obtain ⟨av, b1, b2, b3⟩ := s8.app
      refine ⟨av, b1, sz_lt (by rw [b2]; simp; omega), D4, ?_⟩
      have et : ((zs.take (j + 1)).map f).map Ow.d = ((zs.take j).map f).map Ow.d ++ [.d (f zs[j])] := by
        rw [List.take_add_one, List.getElem?_eq_getElem hj, List.map_append, List.map_append]
        rfl
      rw [et]
      exact b3
    · have ej : j = zs.length := by omega
      subst ej
      rw [List.take_length] at s3
      refine .inl ⟨⟨ws, sq_of g1, by omega⟩, ?_⟩
      have s4 : Sd K D' H' ((.ref Dl, .l Dl ((zs.map f).map Ow.d)) :: (.ref a, .l a xs) :: T) σ (wp (ρ.set i (some (.m a))) vs) := s3.unwipe
      exact k _ _ _ D' H' ⟨Dl, _, rfl, q⟩ ((Sd.bkG (T := (V.ref Dl, Ow.l Dl ((zs.map f).map Ow.d)) :: T) (s4.perm (List.Perm.swap _ _ _)) rfl))
end
end DL

/-! ### K. loops that fold -/
namespace DL
open PySem L2 Evl
section
variable {K : PySem.W.Frag} [HasTabs K] {E : XK} {ρ : Rh} {S : SPost} {α β : Type}
theorem take_fold {f : β → α → β} {b0 : β} {xs : List α} {i : Nat} {x : α} (h : xs[i]? = some x) : (xs.take (i + 1)).foldl f b0 = f ((xs.take i).foldl f b0) x := by
  rw [List.take_add_one, h, List.foldl_append]
  rfl
theorem loop_fold {g : TG} {ws : List Nat} {tb : TS} (emb : α → Dat) (f : β → α → β) (st : β → Rh) (b0 : β) (xs : List α) (h0 : ρ = st b0)
    (hs : ∀ i x b, xs[i]? = some x → b = (xs.take i).foldl f b0 → GvP K g ws (st b) (emb x) (fun ρ1 => SvP K E tb ρ1 (onT (fun ρ2 => ρ2 = st (f b x)) S)))
    (hd : S (.nx (st (xs.foldl f b0)))) : LoopP K E g ws tb (xs.map emb) ρ S := by
  refine loop_inv (fun i ρ' => ρ' = st ((xs.take i).foldl f b0)) (by rw [h0]; rfl) (fun i d ρ' hi he => ?_) (fun ρ' he => ?_)
  · rw [List.getElem?_map] at hi
    cases hx : xs[i]? with
    | none => rw [hx] at hi; cases hi
    | some x =>
      rw [hx] at hi
      cases hi
      rw [he]
      refine fun D H T σ v Q s k => hs i x _ hx rfl D H T σ v Q s fun σ' ρ2 D' H' q => k σ' ρ2 D' H' (SvP.mono q fun out z => ?_)
      cases out with
      | nx ρ1 => obtain ⟨ρ2, w, z⟩ := z; exact ⟨ρ2, w, by rw [z, take_fold hx]⟩
      | ct ρ1 => obtain ⟨ρ2, w, z⟩ := z; exact ⟨ρ2, w, by rw [z, take_fold hx]⟩
      | bk ρ1 => exact z
      | rt o ρ1 => exact z
      | xc C fs ρ1 => exact z
  · rw [List.length_map, List.take_length] at he
    rw [he]
    exact hd
/-- a loop that goes on while p is false -/
theorem loop_first {g : TG} {ws : List Nat} {tb : TS} (emb : α → Dat) (p : α → Bool) (xs : List α) (ρ0 : Rh) (h0 : ρ = ρ0)
    (hs : ∀ i x, xs[i]? = some x → (∀ y ∈ xs.take i, p y = false) → GvP K g ws ρ0 (emb x) (fun ρ1 => SvP K E tb ρ1 (onT (fun ρ2 => ρ2 = ρ0 ∧ p x = false) S)))
    (hd : (∀ y ∈ xs, p y = false) → S (.nx ρ0)) : LoopP K E g ws tb (xs.map emb) ρ S := by
  refine loop_inv (fun i ρ' => ρ' = ρ0 ∧ ∀ y ∈ xs.take i, p y = false) ⟨h0, by simp⟩ (fun i d ρ' hi he => ?_) (fun ρ' he => ?_)
  · rw [List.getElem?_map] at hi
    cases hx : xs[i]? with
    | none => rw [hx] at hi; cases hi
    | some x =>
      rw [hx] at hi
      cases hi
      rw [he.1]
      refine fun D H T σ v Q s k => hs i x hx he.2 D H T σ v Q s fun σ' ρ2 D' H' q => k σ' ρ2 D' H' (SvP.mono q fun out z => ?_)
      have fin : p x = false → ∀ y ∈ xs.take (i + 1), p y = false := fun hp y hy => by
        rw [List.take_add_one, hx] at hy
        rcases List.mem_append.mp hy with h | h
        · exact he.2 y h
        · simp at h; rw [h]; exact hp
      cases out with
      | nx ρ1 => obtain ⟨ρ2, w, z1, z2⟩ := z; exact ⟨ρ2, w, z1, fin z2⟩
      | ct ρ1 => obtain ⟨ρ2, w, z1, z2⟩ := z; exact ⟨ρ2, w, z1, fin z2⟩
      | bk ρ1 => exact z
      | rt o ρ1 => exact z
      | xc C fs ρ1 => exact z
  · rw [List.length_map, List.take_length] at he
    rw [he.1]
    exact hd he.2
/-- a field of an owned object in a slot -/
theorem ev_fldO {i : Nat} {f : Str} {P : EPost} (hi : ∃ a C gs d, ρ[i]? = some (some (.o a C gs)) ∧ Cls K C ∧ NoAttr K C f ∧ gs.lookup f = some d ∧ P (.ok (.d d)) ρ) : EvP K E (tFld K (tVar i) f) ρ P := by
  intro D H T σ Q s k xo
  obtain ⟨a, C, gs, d, e, hC, hn, hl, q⟩ := hi
  obtain ⟨h1, dx, fs, ha, hf⟩ := s.geto e
  obtain ⟨w, hw, dw⟩ := hf.look hl
  exact ⟨.ref a, h1, a, C, dx, fs, w, rfl, ha, hC, hn, hw, k _ _ _ D H q (s.push dw)⟩
theorem bkG_at {o : Ow} {b : Addr} {r : Rh} : bkG o b (some (.m b) :: r) = some o :: r := by
  show (if b = b then some o :: r else _) = _
  rw [if_pos rfl]
theorem bkG_d {o : Ow} {b : Addr} {x : Dat} {r : Rh} : bkG o b (some (.d x) :: r) = some (.d x) :: bkG o b r := rfl
theorem bkG_n {o : Ow} {b : Addr} {r : Rh} : bkG o b (none :: r) = none :: bkG o b r := rfl
theorem atD_nat {γ : Type} {xs : List γ} {j : Nat} {w : γ} (h : xs[j]? = some w) : atI xs (j : Int) = some w := by
  have hj : j < xs.length := (List.getElem?_eq_some_iff.mp h).1
  unfold atI
  rw [ixN_nat hj]
  exact h
def tupOf (x : Dat) : Dat := match x.seq with
  | some (_, ds) => .tup ds
  | none => .non
end
end DL

/-! ### N. promises that hold where no repr is under way -/
namespace DL
open PySem L2 Evl PySem.Spec PyProof.Rows
section
variable (P : Program) (w : World) (K : PySem.W.Frag) [HasTabs K] (mg : Str → Option Value) (base : Heap)
/-- a function's promise, asked only where nothing is being shown -/
structure FnG (k : Nat) (f : Addr) (fd : FuncData) (ps : List Str) (sp : Sp) : Prop where
  len : ∀ vs H Q E, sp vs H Q E → vs.length = ps.length
  run : ∀ (A : Around) (outer : List Env) (s : Shared) (H : Hp) (args : Args) (us : List Value) (vs : List V) (Q : VK) (E : XK), A.guards = some [] → Room k A → Env0 P w K mg base A outer s H → BindsTo s fd args (ps.zip us) → Vals vs us → sp vs H Q E →
    codeAny (model P w) A (.call (.ref f) args) (CR CX0 outer P w H s Q E) s
structure OkG (k : Nat) (x : Str) (ps : List Str) (R : Pr) : Prop where
  ex : ∃ (f : Addr) (fd : FuncData), mg x = some (.ref f) ∧ PySem.W.keepIn K (.ref f) = true ∧ Binds K fd ps [] ∧ FnG P w K mg base k f fd ps (spOf K R)
end
section
variable {P : Program} {w : World} {K : PySem.W.Frag} [HasTabs K] {mg : Str → Option Value} {base : Heap}
theorem fnG_body {x qual : Str} {st : Stmt} {f : Addr} {fd : FuncData} {N ps : List Str} {k : Nat} {sp : Sp} (F : Fun K x qual st f fd) (S : FnScope N ps (defScope st)) (len : ∀ vs H Q E, sp vs H Q E → vs.length = ps.length)
    (hbody : ∀ (cdv : Value) (A : Around) (outer : List Env) (s : Shared) (H : Hp) (vs : List V) (Q : VK) (E : XK), A.guards = some [] → Room k (A.deeper (envOfC qual (defScope st) s.heap.objs.size f cdv)) → sp vs H Q E →
      ∃ t, PSs (cxOf CX0 P w K mg base N qual (defScope st) f cdv A outer s H E).nox (defBody st) t ∧ t { nx := fun _ H' => Q .non H', rt := Q } (L2.start N vs) H) : FnG P w K mg base (k + 1) f fd ps sp := by
  obtain ⟨oc, od, kV, doc, pm, an, cdv, ct, osl, rfl, lk, hcd⟩ := F.ex
  constructor
  · exact len
  · intro A outer s H args us vs Q E hg hr e0 hb hv h
    obtain ⟨t, ht, hq⟩ := hbody cdv A outer s H vs Q E hg (hr.deeper _) h
    have hl := len _ _ _ _ h
    have hin : K.In s.heap := e0.mod.kin.keeps fun b o e => (e0.bs b o e).1
    refine codeAny_call_function hr.depth (hin _ _ lk) rfl S.co S.gen rfl (PySem.W.codeRec_of hin hcd) (hb _ _ _ _ ?_)
    refine wpAny_newFunctionEnv_cells S.kind (fun y hy => ?_) fun env he s1 x1 => ?_
    · obtain ⟨n, v⟩ := y
      exact (S.par n (List.of_mem_zip hy).1).imp id fun q => ⟨q, PySem.W.cellsFrom_some _ _ _ (.inl q)⟩
    · subst he
      have nl : s.heap.NoLimit := e0.mod.nolimit.keeps fun b o e => (e0.bs b o e).1
      have I := inv_start (CX := CX0) (E := E) S hr.hd e0 hl hv x1
      refine ⟨nl.keeps x1.toInCall.keep, codeAny_func (wpAny_mono (ht.nox.run [] s1 (L2.start N vs) H _ I hq) (fun fl s' z => ?_) fun _ _ z => z)⟩
      cases fl with
      | next =>
        obtain ⟨σ', H', J, z⟩ := z
        exact ⟨V.non, H', J.os, J.bare, J.base, J.hok, rfl, z⟩
      | ret u =>
        obtain ⟨v, σ', H', J, rv, z⟩ := z
        exact ⟨v, H', J.os, J.bare, J.base, J.hok, rv, z⟩
      | brk => exact z.elim fun _ z => z.elim fun _ z => z.2.elim
      | cont => exact z.elim fun _ z => z.elim fun _ z => z.2.elim
theorem Dfn.okG {x qual : Str} {st : Stmt} {N ps : List Str} {k : Nat} {R : Pr} (F : Dfn K mg x qual st ps) (S : FnScope N ps (defScope st)) (hl : ps.length ≤ N.length) (len : ∀ os Pp, R os Pp → os.length = ps.length)
    (noex : ∀ os Pp, R os Pp → R os (fun r us => (match r with | .ok _ => True | .ex _ _ => False) ∧ Pp r us))
    (hbody : ∀ (f : Addr) (cdv : Value) (A : Around) (outer : List Env) (s : Shared) (H : Hp) (E : XK), A.guards = some [] → Room k (A.deeper (PyProof.Rows.envOfC qual (defScope st) s.heap.objs.size f cdv)) →
      ∃ t, PSs (cxOf CX0 P w K mg base N qual (defScope st) f cdv A outer s H E).nox (defBody st) t ∧ ∀ os Pp, R os Pp → SvP K E0 t (os.map some ++ List.replicate (N.length - os.length) none) (retS os Pp)) : OkG P w K mg base (k + 1) x ps R := by
  obtain ⟨f, fd, h1, h2, h3, h4⟩ := F.ex
  refine ⟨f, fd, h1, h2, h3, fnG_body h4 S (fun vs H Q E h => ?_) fun cdv A outer s H vs Q E hg hr h => ?_⟩
  · obtain ⟨D, T, os, Pp, e, _, r, _⟩ := h
    exact e.trans (len os Pp r)
  · obtain ⟨t, ht, hb⟩ := hbody f cdv A outer s H E hg hr
    refine ⟨t, ht, ?_⟩
    obtain ⟨D, T, os, Pp, e, s1, r, k1, k2⟩ := h
    exact run_body (K := K) (E := E0) (R := R) (ps := ps) (by rw [e, len os Pp r]; exact hl) ⟨D, T, os, _, e, s1, noex os Pp r, fun v o us D' H' q => k1 v o us D' H' q.2, fun C fs us D' H' d q => q.1.elim⟩ hb
end
section
variable {X : Cx} {k : Nat} {x : Str} {ps : List Str} {R : Pr} {p pos : Pos} {e : Expr} {es : List Expr} {t : TA}
/-- a call where nothing is being shown -/
theorem pe_fnG {P : Program} {w : World} {K : PySem.W.Frag} [HasTabs K] {mg : Str → Option Value} {base : Heap} (O : OkG P w K mg base k x ps R) (hX : X.prog = P ∧ X.w = w ∧ X.K = K ∧ X.mg = mg ∧ X.base = base) (hgd : X.A.guards = some []) (hr : Room k X.A) (hg : Gl X x) (ha : PA X (e :: es) t) (hdb : (x == ("__debug__" : Str)) = false := by decide)
    (he : starEach (e :: es) X.env = (false, eval e X.env) :: starEach es X.env := by rfl) (hpl : (backTo pos (starEach es X.env)).any (·.1) = false := by rfl) : PE X (.Call (.Name x p) (e :: es) [] pos) (tCall (spOf K R) [] E0 t) := by
  obtain ⟨f, fd, hm, hk, hb, F⟩ := O.ex
  obtain ⟨rfl, rfl, rfl, rfl, rfl⟩ := hX
  constructor
  intro pins s σ H Q I h
  refine wpAny_Call_Name_kw (ld_glob I hg hm ?_ hdb)
  refine PySem.W.callWith_K (h₀ := X.base) I.ok.mod.kin hk ?_ he hpl
  refine wpAny_mono (ha.run pos pins s σ H _ I h) (fun us s1 z => ?_) fun _ _ z => z
  obtain ⟨vs, H1, I1, rv, q⟩ := z
  refine ⟨I1.kIn, ?_⟩
  have r2 := Vals.append rv (.nil : Vals [] [])
  have hl : (us ++ []).length = ps.length := by rw [← r2.length]; exact F.len _ _ _ _ q
  refine wpAny_call (codeAny_mono (F.run X.A X.stack s1 H1 ⟨us, []⟩ (us ++ []) (vs ++ []) Q E0 hgd hr I1.env0 (hb s1 us I1.kIn hl) r2 q) fun r s' z => ?_)
  cases r with
  | error e => exact z.elim
  | ok fl =>
    cases fl with
    | ret u => exact I1.after z
    | _ => exact z.elim
/-! repr of data -/
theorem call_reprD (hgd : X.A.guards = some []) (hu : X.A.units + 65 < cLine) : CallR X (.builtin "repr") (rReprD X.K) := by
  intro pins s σ H xs us Q I r h
  obtain ⟨v, d, rfl, hd, h1, h2, h3, h4, q⟩ := h
  obtain ⟨u, rfl, ru⟩ := r.one
  obtain ⟨as, rd⟩ := Dp.reads I d v u hd ru
  have fin : ∀ (h' : Heap) (u' : Tok) (tk : Nat), (∀ b o, s.heap.get? b = some o → h'.get? b = some o) → EP X pins σ Q (.str d.shown u') { s with heap := h', toks := tk } := fun h' u' tk hk => ⟨.str _, H, I.kept (t' := tk) hk, ⟨_, rfl⟩, q⟩
  have rd0 := rd
  cases rd with
  | none => exact PySem.P.repr_of_none (fin _ _ _ fun _ _ e => e)
  | bool b => exact PySem.P.repr_of_bool (fin _ _ _ fun _ _ e => e)
  | int i t => exact PySem.P.repr_of_int (by simpa [PyData.showable] using h1) (fin _ _ _ fun _ _ e => e)
  | str x t => exact PySem.P.repr_of_str (fin _ _ _ fun _ _ e => e) (by simpa [PyData.shown] using h3)
  | _ => exact repr_of_reads' rd0 h1 (PyData.noDict_hsm h2) hgd (by omega) (fun _ _ e => e) fin h3
end
end DL

/-! ### O. the top of a law, nothing being shown -/
namespace DL
open PySem L2 Evl PySem.Spec PyProof.Rows
/-- a law of a script: true -/
def R_lawS : Pr := fun os Pp => ∃ ns : List Int, os = [.d (.scr ns)] ∧ ns.length ≤ 63 ∧ Pp (.ok (.d (.bl true))) [.d (.scr ns)]
theorem R_lawS_noex (os : List Ow) (Pp : Re → List Ow → Prop) (h : R_lawS os Pp) : R_lawS os (fun r us => (match r with | .ok _ => True | .ex _ _ => False) ∧ Pp r us) := by
  obtain ⟨ns, h1, h2, q⟩ := h
  exact ⟨ns, h1, h2, trivial, q⟩
theorem spOf_law {K : PySem.W.Frag} [HasTabs K] {H : Hp} {a : Addr} {ns : List Int} (hl : ns.length ≤ 63) (hS : SqL K H a (ns.map V.int)) (tb : LamX.Tabs (HasTabs.tt K) H) : spOf K R_lawS [.ref a] H (fun v _ => v = .bl true) fun _ _ _ => False := by
  refine ⟨H, [], [.d (.scr ns)], fun r us => r = .ok (.d (.bl true)) ∧ us = [.d (.scr ns)], rfl, ⟨fun _ _ e => e, fun p hp => ?_,   .nil, List.nodup_nil, (fun b hb => nomatch hb), tb⟩, ⟨ns, rfl, hl, rfl, rfl⟩, ?_, ?_⟩
  · obtain rfl : p = (V.ref a, Ow.d (.scr ns)) := by simpa using hp
    exact .d (.scr hS)
  · rintro v o us D' H' ⟨e1, rfl⟩ _ s
    cases e1
    have hv := s.tm (v, Ow.d (.bl true)) List.mem_cons_self
    cases hv with
    | d hv => cases hv; rfl
  · rintro C fs us D' H' d ⟨e1, _⟩
    cases e1
/-- what is tracked at the entry: the script, if it is no object of the module -/
def scrH (K : PySem.W.Frag) (a : Addr) (o : Obj) (ns : List Int) : Hp := fun b => if b = a ∧ K.lookup a = none then some (.frz o (.lst (ns.map V.int))) else none
theorem topG {P : Program} {w : World} {K : PySem.W.Frag} [HasTabs K] {mg mb : Str → Option Value} {k : Nat} {fa a : Addr} {fd : FuncData} {x : Str} {s₁ : Shared} {vs : List Value} {ns : List Int}
    (KX : K.In s₁.heap) (hns : s₁.heap.Ns mainGlobals mg) (hb : s₁.heap.Ns builtinsNs mb) (hbb : ∀ x : Str, x ≠ "__name__" → mb x = bootBuiltins x) (hlim : s₁.heap.NoLimit) (hg : s₁.gens = #[])
    (ha : s₁.heap.get? a = some { cls := .type "list", data := .seq vs.toArray }) (hi : IntsAre vs ns) (hl : ns.length ≤ 63) (hr : Room k callerA) (ht : HasTabs.tt K = [])
    (F : ∀ base : Heap, K.In base → base.Ns mainGlobals mg → FnG P w K mg base k fa fd [x] (spOf K R_lawS)) (hbind : ∀ (s : Shared) (u : Value), BindsTo s fd ⟨[u], []⟩ [(x, u)]) :
    codeAny (model P w) callerA (.call (.ref fa) ⟨[.ref a], []⟩) (fun r s' => r = .ok (.ret (.bool true)) ∧ PySem.OldK s₁.heap s'.heap ∧ s'.os = s₁.os ∧ AllBare s'.gens) s₁ := by
  have hsz : (ns.map V.int).length ≤ sizeLine := by rw [List.length_map, sizeLine_eq]; omega
  let o : Obj := { cls := .type "list", data := .seq vs.toArray }
  let H := scrH K a o ns
  have hH : ∀ b u, H b = some u → b = a ∧ K.lookup a = none ∧ u = .frz o (.lst (ns.map V.int)) := fun b u z => by
    by_cases c : b = a ∧ K.lookup a = none
    · have z' := (if_pos c).symm.trans z
      exact ⟨c.1, c.2, (Option.some.inj z').symm⟩
    · have z' := (if_neg c).symm.trans z
      cases z'
  have off : ∀ {b : Addr} {ob : Obj}, s₁.heap.get? b = some ob → (∀ n m, ob.data ≠ .seq n m) → H b = none := fun {b ob} e hd => by
    cases q : H b with
    | none => rfl
    | some u =>
      obtain ⟨rfl, _, _⟩ := hH b u q
      rw [ha] at e
      exact absurd (congrArg Obj.data (Option.some.inj e)).symm (hd _ _)
  have ns0 : ∀ {b : Addr} {m : Str → Option Value}, s₁.heap.Ns b m → (hidT s₁.heap H).Ns b m := fun {b m} h => by
    obtain ⟨ob, es, ep, e, d, r⟩ := h
    exact ⟨ob, es, ep, hidT_get e (off e fun n m z => by rw [d] at z; cases z), d, r⟩
  have kin : K.In (hidT s₁.heap H) := fun b ob e => hidT_get (KX b ob e) (by
    cases q : H b with
    | none => rfl
    | some u =>
      obtain ⟨rfl, z, _⟩ := hH b u q
      rw [z] at e; cases e)
  have hM : Mod K mg (hidT s₁.heap H) := ⟨kin, ns0 hns, ⟨mb, ns0 hb, hbb⟩, by
    obtain ⟨mc, h1, h2⟩ := hlim
    exact ⟨mc, ns0 h1, h2⟩⟩
  have hok : HOk P w H s₁.heap := fun b u z => by
    obtain ⟨rfl, _, rfl⟩ := hH b u z
    exact ⟨ha, hsz, vs, _, vals_ints hi, ha⟩
  have e0 : Env0 P w K mg (hidT s₁.heap H) callerA [] s₁ H := ⟨rfl, hM, fun b ob e => of_hidT e, Nat.le_of_eq (hidT_size _ _), trivial, fun b hb => absurd (show b ∈ ([] : List Addr) from hb) (by simp), hok, .of_eq hg⟩
  have hS : SqL K H a (ns.map V.int) := by
    cases hk : K.lookup a with
    | some ok =>
      have e := KX a ok hk
      rw [ha] at e
      cases e
      exact .inr ⟨_, vs.toArray, _, hk, rfl, rfl, rfl, by rw [List.size_toArray, hi.length, sizeLine_eq]; omega, by simpa using vals_ints hi⟩
    | none => exact .inl (.inr ⟨o, if_pos ⟨rfl, hk⟩⟩)
  have run := (F _ kin (ns0 hns)).run callerA [] s₁ H ⟨[.ref a], []⟩ [.ref a] [.ref a] _ _ rfl hr e0 (hbind s₁ (.ref a)) (.cons rfl .nil) (spOf_law hl hS (by rw [ht]; exact fun p hp => nomatch hp))
  refine codeAny_mono run fun r s' z => ?_
  match r, z with
  | .ok (.ret u), z =>
    obtain ⟨v, H', os, bare, un, hok', rv, qv⟩ := z
    have qv : v = .bl true := qv
    subst qv
    obtain rfl : u = Value.bool true := rv
    refine ⟨rfl, PySem.OldK.of_keep fun b ob e => ?_, os, bare⟩
    cases q : H b with
    | none => exact un.keep b ob e q (by intro z; exact absurd (show b ∈ ([] : List Addr) from z) (by simp)) (by simp)
    | some u =>
      obtain ⟨rfl, _, rfl⟩ := hH b u q
      obtain ⟨e2, _⟩ := hok' b _ (un.frzs b o _ q)
      rw [ha] at e
      rw [e2, ← e]
  | .ok .next, z => exact False.elim z
  | .ok .brk, z => exact False.elim z
  | .ok .cont, z => exact False.elim z
  | .error e, z => exact False.elim z
theorem walkG {l : PySem.W.OpenLaw} {k : Nat} {q : Program} {loose : List Str} {XP : (Str → Option Value) → Heap → Prop} {YP : World → Heap → Prop} {d : DefRec} {K : Params → PySem.W.Frag} [i0 : ∀ p, HasTabs (K p)] {x : Str} (ht : ∀ p, HasTabs.tt (K p) = [])
    (hn : l.most = some 63) (hdf : d.params.defaults = []) (hr : Room k callerA) (hY : ∀ (w : World) (h : Heap), YP w h → (K w.params).In h)
    (F : ∀ (w : World) (mg : Str → Option Value) (fa : Addr) (h : Heap), (K w.params).In h → h.Ns mainGlobals mg → mg d.name = some (.ref fa) →
      ∃ fd : FuncData, (∀ (s : Shared) (u : Value), BindsTo s fd ⟨[u], []⟩ [(x, u)]) ∧ ∀ base : Heap, (K w.params).In base → base.Ns mainGlobals mg → FnG l.prog w (K w.params) mg base k fa fd [x] (spOf (K w.params) R_lawS)) :
    PySem.W.WalkO q loose XP YP l.row.toRowW d [] (fun f vs => PySem.call f vs) := by
  refine Att.attach_call hn hdf fun w s₀ s₁ mg mb fa o pm cd doc a vs ns G Y _ _ _ hmg hobj hints hlen hg => ?_
  obtain ⟨fd, hb, hF⟩ := F w mg fa _ (hY w _ Y) G.T.g hmg
  exact topG (hY w _ Y) G.T.g G.T.b G.T.builtins G.T.nolimit hg hobj hints hlen hr (ht _) hF hb
end DL

/-! ### M. walks over a dict's keys, counts, texts of data, lists told backwards -/
namespace DL
open PySem L2 Evl PySem.Spec PyProof.Rows
section
variable {K : PySem.W.Frag} [HasTabs K] {E : XK} {D H : Hp} {T : Tm} {σ : L2.St} {ρ : Rh} {P : EPost} {S : SPost} {te ta tb : TE} {tas : TA} {i : Nat} {a : Addr} {o o' : Ow}
/-- a slot's owned object is told anew -/
theorem Sd.swap {u : HO} (h : Sd K D H T σ ρ) (e : ρ[i]? = some (some o)) (r : o.root = some a) (fo : o.fp = [a]) (fo' : o'.fp = [a]) (q : ∀ H' : Hp, H' a = some u → DenO K D H' (.ref a) o') : Sd K D (upd H a u) T σ (ρ.set i (some o')) := by
  obtain ⟨s0, _⟩ := h.move e r
  have e1 := fpR_none e
  rw [show fpO (some o) = [a] from fo] at e1
  have hl1 : i < ρ.length := (List.getElem?_eq_some_iff.mp e).1
  have fa : D a = none := h.out a (List.mem_append_right _ (e1.mem_iff.mpr (List.mem_append_left _ List.mem_cons_self)))
  have nT : ∀ c ∈ fpT T ++ fpR (ρ.set i none), c ≠ a := fun c hc z => by
    have q : (fpT T ++ (a :: fpR (ρ.set i none))).Nodup := (e1.append_left _).nodup_iff.mp h.nd
    have q2 : (a :: (fpT T ++ fpR (ρ.set i none))).Nodup := List.perm_middle.nodup_iff.mp q
    rw [List.nodup_cons] at q2
    exact q2.1 (by rw [← z]; exact hc)
  have sl0 : Slots K D (upd H a u) σ (ρ.set i none) := (h.sl.none i).keep (Ex.refl D) fun c hc x hx => by rw [upd_ne (nT c (List.mem_append_right _ hc))]; exact hx
  have sl1 := sl0.put s0 (o := o') (q _ upd_same)
  rw [List.set_set] at sl1
  have pm : (fpT T ++ fpR (ρ.set i (some o'))).Perm (fpT T ++ fpR ρ) := by
    refine List.Perm.append_left _ ((fpR_set _ hl1).trans ?_)
    rw [show fpO (some o') = [a] from fo']
    exact e1.symm
  exact .mk' (fun c x hc => by rw [upd_ne (fun z => by rw [z, fa] at hc; cases hc)]; exact h.ex c x hc)
    (fun p hp => (h.tm p hp).keep (Ex.refl D) fun c hc x hx => by rw [upd_ne (nT c (List.mem_append_left _ (mem_fpT hp hc)))]; exact hx) sl1 pm h.nd h.out
/-- a tuple of the heap may be told as data -/
theorem Sd.learn {b : Addr} {vs : List V} {ds : List Dat} (h : Sd K D H T σ ρ) (hb : H b = some (.tup vs)) (q : DenAll K D vs ds) : ∃ D', Sd K D' H ((.ref b, .d (.tup ds)) :: T) σ ρ := by
  cases hD : D b with
  | some u =>
    have := h.ex b u hD
    rw [hb] at this
    cases this
    exact ⟨D, h.push (.tup hD q)⟩
  | none =>
    have nb : ∀ c ∈ fpT T ++ fpR ρ, c ≠ b := fun c hc z => by
      subst z
      have own : ∀ {v : V} {o : Ow}, DenO K D H v o → c ∈ o.fp → False := by
        intro v o hd
        have key : ∀ (n : Nat) {v : V} {o : Ow}, sizeOf o ≤ n → DenO K D H v o → c ∈ o.fp → False := by
          intro n
          induction n with
          | zero => intro v o hs; cases o <;> simp at hs
          | succ n ih =>
            intro v o hs hd hc
            have many : ∀ {vs : List V} {os : List Ow}, sizeOf os ≤ n → DenOs K D H vs os → c ∈ fps os → False := by
              intro vs os
              induction os generalizing vs with
              | nil => intro _ _ hc; unfold fps at hc; exact nomatch hc
              | cons o os ih2 =>
                intro hs hd hc
                cases hd with
                | cons h1 h2 =>
                  unfold fps at hc
                  have hs' : sizeOf o + sizeOf os < n + 1 := by simp at hs; omega
                  rcases List.mem_append.mp hc with z | z
                  · exact ih (by omega) h1 z
                  · exact ih2 (by omega) h2 z
            cases hd with
            | d _ => unfold Ow.fp at hc; exact nomatch hc
            | m _ => unfold Ow.fp at hc; exact nomatch hc
            | q _ _ => unfold Ow.fp at hc; exact nomatch hc
            | l h1 h2 =>
              unfold Ow.fp at hc
              rcases List.mem_cons.mp hc with z | z
              · subst z; rw [hb] at h1; cases h1
              · exact many (by simp at hs; omega) h2 z
            | t h1 _ => unfold Ow.fp at hc; rw [List.mem_singleton] at hc; subst hc; rw [hb] at h1; cases h1
            | z h1 _ => unfold Ow.fp at hc; rw [List.mem_singleton] at hc; subst hc; rw [hb] at h1; cases h1
            | o h1 _ => unfold Ow.fp at hc; rw [List.mem_singleton] at hc; subst hc; rw [hb] at h1; cases h1
        exact key _ (Nat.le_refl _) hd
      rcases List.mem_append.mp hc with z | z
      · have : ∀ (T : Tm), (∀ p ∈ T, DenO K D H p.1 p.2) → c ∈ fpT T → False := by
          intro T
          induction T with
          | nil => intro _ z; exact nomatch (show c ∈ ([] : List Addr) from z)
          | cons x T ih =>
            intro q z
            rcases List.mem_append.mp z with z | z
            · exact own (q x List.mem_cons_self) z
            · exact ih (fun p hp => q p (List.mem_cons_of_mem _ hp)) z
        exact this T h.tm z
      · have : ∀ {σ : L2.St} {ρ : Rh}, Slots K D H σ ρ → c ∈ fpR ρ → False := by
          intro σ ρ s
          induction s with
          | nil => intro z; exact nomatch (show c ∈ ([] : List Addr) from z)
          | skip _ ih => intro z; exact ih (by simpa [fpR, fpO] using z)
          | cons h1 _ ih =>
            intro z
            rcases List.mem_append.mp z with z | z
            · exact own h1 z
            · exact ih z
        exact this h.sl z
    have e1 : Ex D (upd D b (.tup vs)) := Ex.new hD
    refine ⟨upd D b (.tup vs), (h.grow e1 (fun c x hc => ?_) (fun _ _ _ hx => hx) fun c hc => by rw [upd_ne (nb c hc)]; exact h.out c hc).push (.tup upd_same (q.mono e1))⟩
    by_cases z : c = b
    · subst z; rw [upd_same] at hc; cases hc; exact hb
    · rw [upd_ne z] at hc; exact h.ex c x hc
def zS (i : Nat) (a : Addr) (ob : Obj) (kvs : List (List Key × V)) (kds : List (List Key × Dat)) (S : SPost) : SPost := fun out => match out with
  | .nx ρ => ρ[i]? = some (some (.z a ob kvs kds)) ∧ S (.nx (ρ.set i (some (.t a kds))))
  | .rt o ρ => ρ[i]? = some (some (.z a ob kvs kds)) ∧ o.fp = [] ∧ S (.rt o (ρ.set i (some (.t a kds))))
  | .bk ρ => ρ[i]? = some (some (.z a ob kvs kds)) ∧ S (.bk (ρ.set i (some (.t a kds))))
  | .ct ρ => ρ[i]? = some (some (.z a ob kvs kds)) ∧ S (.ct (ρ.set i (some (.t a kds))))
  | .xc _ _ _ => False
theorem key_all (k : List Key) : DenAll K D (k.map kV) (k.map fun x => match x with | .inl i => Dat.int i | .inr s => .str s) := by
  induction k with
  | nil => exact .nil
  | cons x k ih => cases x <;> exact .cons (by constructor) ih
/-- for k in d: d owned in slot i, its keys tuples -/
theorem sv_forK {g : TG} {ws : List Nat} {tb : TS} {kds : List (List Key × Dat)} (e : ρ[i]? = some (some (.t a kds))) (I : Obj → List (List Key × V) → Nat → Rh → Prop)
    (h0 : ∀ ob kvs, I ob kvs 0 (ρ.set i (some (.z a ob kvs kds)))) (hz : ∀ ob kvs n ρ', I ob kvs n ρ' → ρ'[i]? = some (some (.z a ob kvs kds)))
    (hs : ∀ ob kvs n k d ρ', kds[n]? = some (k, d) → I ob kvs n ρ' → GvP K g ws ρ' (keyD k) (fun ρ1 => SvP K E tb ρ1 (onT (I ob kvs (n + 1)) (zS i a ob kvs kds S))))
    (hd : ∀ ob kvs ρ', I ob kvs kds.length ρ' → S (.nx (ρ'.set i (some (.t a kds))))) : SvP K E (tLock (tFor (iKeys (tVar i)) g tb)) ρ S := by
  intro D H T σ En s w
  obtain ⟨s0, kvs, ha, dk⟩ := s.gett e
  refine ⟨a, .dT kvs, ha, trivial, fun ob => ?_⟩
  have s1 : Sd K D (upd H a (.frz ob (.dT kvs))) T σ (ρ.set i (some (.z a ob kvs kds))) := s.swap e rfl rfl rfl fun H' hH' => .z hH' dk
  refine ⟨.ref a, s0, a, ob, rfl, .inr ⟨kvs, upd_same, ?_⟩⟩
  have hlen : kvs.length = kds.length := dk.length
  have back : ∀ {D' H' : Hp} {T' : Tm} {σ' : L2.St} {ρ' : Rh}, Sd K D' H' T' σ' ρ' → ρ'[i]? = some (some (.z a ob kvs kds)) → H' a = some (.frz ob (.dT kvs)) ∧ Sd K D' (upd H' a (.dT kvs)) T' σ' (ρ'.set i (some (.t a kds))) := fun s' e' => by
    obtain ⟨_, h1, h2⟩ := s'.getz e'
    exact ⟨h1, s'.swap e' rfl rfl rfl fun H' hH' => .t hH' h2⟩
  refine ⟨fun n m σ' H' => n + m = kds.length ∧ ∃ D' ρ', Sd K D' H' T σ' ρ' ∧ I ob kvs n ρ', ⟨kds.length, by omega, D, _, s1, h0 ob kvs⟩, ?_⟩
  rintro n m σ' H' ⟨hm, D', ρ', s', q'⟩
  obtain ⟨_, hH', dk'⟩ := s'.getz (hz _ _ _ _ q')
  by_cases hn : n < kds.length
  · refine .inr ⟨⟨hH', by omega⟩, fun σ2 H2 => ∃ D2 ρ2, Sd K D2 H2 T σ2 ρ2 ∧ I ob kvs (n + 1) ρ2, fun σ2 H2 ⟨D2, ρ2, z1, z2⟩ => ⟨m - 1, by omega, by omega, D2, ρ2, z1, z2⟩, fun x H2 y => ?_⟩
    obtain ⟨rfl, k, v, b, hk, rfl, hb⟩ := y
    have hkd : ∃ d, kds[n]? = some (k, d) := by
      have := dk.keys
      have e1 : (kvs.map (·.1))[n]? = some k := by rw [List.getElem?_map, hk]; rfl
      rw [this, List.getElem?_map] at e1
      cases hx : kds[n]? with
      | none => rw [hx] at e1; cases e1
      | some p => rw [hx] at e1; cases e1; exact ⟨p.2, rfl⟩
    obtain ⟨d, hkd⟩ := hkd
    obtain ⟨D2, s2⟩ := s'.learn hb (key_all k)
    refine hs ob kvs n k d ρ' hkd q' D2 H2 T σ' _ _ s2 fun σ3 ρ3 D3 H3 q3 s3 _ => ?_
    refine q3 D3 H3 T σ3 _ s3 ⟨?_, ?_, ?_, ?_, ?_⟩
    · rintro ρ4 D4 H4 σ4 ⟨ρ5, w5, q5⟩ s4
      exact ⟨D4, ρ5, s4.wk w5, q5⟩
    · rintro v o ρ4 D4 H4 σ4 ⟨z1, z2, z3⟩ s4
      obtain ⟨g1, g2⟩ := back s4 z1
      exact ⟨g1, w.rt v o _ D4 _ σ4 z3 g2⟩
    · rintro ρ4 D4 H4 σ4 ⟨z1, z3⟩ s4
      obtain ⟨g1, g2⟩ := back s4 z1
      exact ⟨g1, w.nx _ D4 _ σ4 z3 g2⟩
    · rintro ρ4 D4 H4 σ4 ⟨ρ5, w5, q5⟩ s4
      exact ⟨D4, ρ5, s4.wk w5, q5⟩
    · intro C fs ρ4 D4 H4 σ4 d4 q4 s4 x4
      exact q4.elim
  · have e2 : n = kds.length := by omega
    subst e2
    refine .inl ⟨⟨hH', by omega⟩, ?_⟩
    obtain ⟨g1, g2⟩ := back s' (hz _ _ _ _ q')
    exact ⟨g1, w.nx _ D' _ σ' (hd _ _ _ q') g2⟩
/-- d[y], d frozen in a slot -/
theorem ev_dgetZ (hi : ∃ a ob kvs kds, ρ[i]? = some (some (.z a ob kvs kds))) (h : EvP K E te ρ (bnd (fun y ρ1 => ρ1 = ρ ∧ ∃ a ob kvs kds k w, ρ[i]? = some (some (.z a ob kvs kds)) ∧ y = .d (keyD k) ∧ valD kds k = some w ∧ P (.ok (.d w)) ρ1) P)) : EvP K E (tDGet (tVar i) te) ρ P := by
  intro D H T σ Q s k xo
  obtain ⟨a0, ob0, kvs0, kds0, e0⟩ := hi
  obtain ⟨s0, h0, _⟩ := s.getz e0
  refine ⟨.ref a0, s0, ?_⟩
  refine h D H T σ _ s (fun u y ρ1 D1 H1 q1 s1 => ?_) (xo.sub0 fun _ _ _ z => z)
  obtain ⟨rfl, a, ob, kvs, kds, key, w, e2, rfl, hw, q⟩ := q1
  rw [e0] at e2
  cases e2
  have hy := s1.tm (u, _) List.mem_cons_self
  cases hy with
  | d hy =>
    obtain ⟨b, rfl, hb⟩ := den_key hy
    have s3 := s1.pop
    obtain ⟨_, hk, dk⟩ := s3.getz e0
    obtain ⟨v1, v2⟩ := dk.val (k := key)
    obtain ⟨v, g1, g2⟩ := v2 w hw
    exact ⟨a0, v, rfl, .inr ⟨_, key, b, .inr ⟨_, hk⟩, rfl, s3.ex _ _ hb, g1.symm⟩, k _ _ _ D1 H1 q (s3.push g2)⟩
/-- found is None, found owned -/
theorem ev_isNt (h : ∃ a kds, ρ[i]? = some (some (.t a kds)) ∧ P (.ok (.d (.bl false))) ρ) : EvP K E (tOp rIsN (tVar i) (tC .non)) ρ P := by
  intro D H T σ Q s k xo
  obtain ⟨a, kds, e, q⟩ := h
  obtain ⟨s0, _⟩ := s.gett e
  refine ⟨.ref a, s0, rfl, ?_⟩
  exact k _ _ _ D H q (s.push (.bl false))
/-- xs[::-1] -/
theorem ev_rev (h : EvP K E te ρ (bnd (fun x ρ1 => ∃ ds, SqO x false ds ∧ P (.ok (.d (.lst ds.reverse))) (bk x ρ1)) P)) : EvP K E (tRevL K te) ρ P := by
  intro D H T σ Q s k xo
  refine h D H T σ _ s (fun v x ρ1 D1 H1 q1 s1 => ?_) (xo.sub0 fun _ _ _ z => z)
  obtain ⟨ds, q, hp⟩ := q1
  obtain ⟨b, xs, rfl, g1, g2⟩ := q.rd s1.ex (s1.tm (v, _) List.mem_cons_self)
  have s2 : Sd K D1 H1 T σ (bk x ρ1) := Sd.bk (v := V.ref b) (o := x) s1
  exact ⟨b, xs, rfl, g1, fun l hl => k _ _ _ _ _ hp ((s2.new hl _).push (.lst upd_same (g2.rev.mono (Ex.new (s2.dnone hl)))))⟩
/-- repr(x) -/
theorem acb_repr {x : Dat} (hp : x.pure = true) (h1 : x.py.showable = true) (h2 : x.py.hasDict = false) (h3 : x.py.shown.length ≤ sizeLine) (h4 : x.py.depth ≤ 64) : ACb K (rReprD K) [x] (.str x.py.shown) := ⟨rfl, fun H vs Q h q => by
  cases h with
  | cons hv ht =>
    cases ht
    exact ⟨_, _, rfl, hv.dp hp, h1, h2, h3, h4, q⟩⟩
theorem ev_repr (h : AvP K E tas ρ (fun os ρ1 => ∃ x, os = [.d x] ∧ (x.pure = true ∧ x.py.showable = true ∧ x.py.hasDict = false ∧ x.py.shown.length ≤ sizeLine ∧ x.py.depth ≤ 64) ∧ P (.ok (.d (.str x.py.shown))) ρ1) P) : EvP K E (tCB (rReprD K) tas) ρ P :=
  ev_cb (h.mono fun os ρ1 q => by
    obtain ⟨x, rfl, ⟨g1, g2, g3, g4, g5⟩, q⟩ := q
    exact ⟨rfl, _, acb_repr g1 g2 g3 g4 g5, q⟩)
theorem aop_neS {x y : Str} : AOp K rNe (.str x) (.str y) (.bl (!decide (x = y))) := ⟨rfl, fun H v w Q h1 h2 q => by
  cases h1; cases h2
  refine ⟨rfl, ?_⟩
  have e : decide (V.str x = V.str y) = decide (x = y) := decide_eq_decide.mpr ⟨fun z => V.str.inj z, fun z => by rw [z]⟩
  rw [e]; exact q⟩
theorem ev_neS (h : EvP K E ta ρ (bnd (fun x ρ1 => EvP K E tb ρ1 (bnd (fun y ρ2 => ∃ i j, x = .d (.str i) ∧ y = .d (.str j) ∧ P (.ok (.d (.bl (!decide (i = j))))) ρ2) P)) P)) : EvP K E (tOp rNe ta tb) ρ P := by
  refine ev_op (h.mono fun r ρ1 z => ?_)
  cases r with
  | ex C fs => exact z
  | ok x =>
    refine EvP.mono z fun r ρ2 z2 => ?_
    cases r with
    | ex C fs => exact z2
    | ok y =>
      obtain ⟨i, j, rfl, rfl, q⟩ := z2
      exact ⟨rfl, rfl, _, aop_neS, q⟩
/-! tuple.count -/
def rTCount (K : PySem.W.Frag) : V → List V → Hp → VK → Prop := fun x xs H Q => ∃ (a : Addr) (y : V) (ds : List PyData) (d : PyData), x = .ref a ∧ xs = [y] ∧ Dp K H x (.tuple ds) ∧ Dp K H y d ∧ PyData.plainAll ds = true ∧ d.plain = true ∧ d.depth ≤ 60 ∧ Q (.int ((ds.countP fun z => PyData.eqv z d : Nat) : Int)) H
theorem mt_tcount {X : Cx} (hu : X.A.units + 65 < cLine) : MtR X "tuple.count" (rTCount X.K) := by
  intro pins s σ H x xs v us Q I rx rxs h
  obtain ⟨a, y, ds, d, rfl, rfl, hl, hy, sl, sd, hz, q⟩ := h
  obtain ⟨uy, rfl, ry⟩ := rxs.one
  cases rx
  obtain ⟨bs, r1⟩ := Dp.reads I d y uy hy ry
  obtain ⟨as, r2⟩ := Dp.reads I (.tuple ds) (.ref a) (.ref a) hl rfl
  cases r2 with
  | tuple h1 h2 h3 h4 =>
    rename_i ob vs n
    exact PySem.SeqAt.count_tuple_data (vs := vs) ⟨ob, h1, h2, n, h3⟩ h4 r1 sl sd (by omega) ⟨.int _, H, I.tok _, ⟨_, rfl⟩, q⟩
/-! deep == of data -/
theorem ev_eqD (h : EvP K E ta ρ (bnd (fun x ρ1 => EvP K E tb ρ1 (bnd (fun y ρ2 => ∃ x' y' b, x = .d x' ∧ y = .d y' ∧ (x'.pure = true ∧ y'.pure = true ∧ SeqAt.shaped x'.py = true ∧ SeqAt.shaped y'.py = true) ∧ PyData.eqv x'.py y'.py = b ∧ P (.ok (.d (.bl b))) ρ2) P)) P)) : EvP K E (tOp (rEqD K) ta tb) ρ P := by
  refine ev_op (h.mono fun r ρ1 z => ?_)
  cases r with
  | ex C fs => exact z
  | ok x =>
    refine EvP.mono z fun r ρ2 z2 => ?_
    cases r with
    | ex C fs => exact z2
    | ok y =>
      obtain ⟨x', y', b, rfl, rfl, ⟨g1, g2, g3, g4⟩, rfl, q⟩ := z2
      exact ⟨rfl, rfl, _, aop_eqD g1 g2 g3 g4, q⟩
theorem ev_neD (h : EvP K E ta ρ (bnd (fun x ρ1 => EvP K E tb ρ1 (bnd (fun y ρ2 => ∃ x' y' b, x = .d x' ∧ y = .d y' ∧ (x'.pure = true ∧ y'.pure = true ∧ SeqAt.shaped x'.py = true ∧ SeqAt.shaped y'.py = true) ∧ PyData.eqv x'.py y'.py = b ∧ P (.ok (.d (.bl (!b)))) ρ2) P)) P)) : EvP K E (tOp (rNeD K) ta tb) ρ P := by
  refine ev_op (h.mono fun r ρ1 z => ?_)
  cases r with
  | ex C fs => exact z
  | ok x =>
    refine EvP.mono z fun r ρ2 z2 => ?_
    cases r with
    | ex C fs => exact z2
    | ok y =>
      obtain ⟨x', y', b, rfl, rfl, ⟨g1, g2, g3, g4⟩, rfl, q⟩ := z2
      exact ⟨rfl, rfl, _, aop_neD g1 g2 g3 g4, q⟩
end
end DL

/-! ### P. defaults and keywords -/
namespace DL
open PySem L2 Evl PySem.Spec PyProof.Rows
section
variable (P : Program) (w : World) (K : PySem.W.Frag) [HasTabs K] (mg : Str → Option Value) (base : Heap)
/-- a def with a default behind: how it may be called -/
structure DfnD (x qual : Str) (st : Stmt) (ps : List Str) (dv : V) : Prop where
  ex : ∃ (f : Addr) (fd : FuncData), mg x = some (.ref f) ∧ PySem.W.keepIn K (.ref f) = true ∧ FunD K x qual (defArgs st) (defBody st) (defScope st) [dv] [] f fd ∧ Binds K fd ps [] ∧ (∃ u, Vals [dv] [u] ∧ Binds K fd ps [u]) ∧ KBn K fd ps 0 ps.reverse (fun _ ws => ws.reverse) (fun _ zs => zs.reverse)
structure CfnD (x qual : Str) (st : Stmt) (ps : List Str) (C : Addr) (dv : V) : Prop where
  ex : ∃ (f : Addr) (fd : FuncData), mg x = some (.ref C) ∧ Mk K C f ∧ FunD K "__init__" qual (defArgs st) (defBody st) (defScope st) [dv] [] f fd ∧ Binds K fd ps []
/-- called with its default -/
structure OkF (k : Nat) (x : Str) (ps : List Str) (R : Pr) (dv : V) : Prop where
  ex : ∃ (f : Addr) (fd : FuncData) (u : Value), mg x = some (.ref f) ∧ PySem.W.keepIn K (.ref f) = true ∧ Vals [dv] [u] ∧ Binds K fd ps [u] ∧ FnOk P w K mg base CX0 k f fd ps (spOf K R)
/-- called by keywords, the parameters told from the last one to the first -/
structure OkK (k : Nat) (x : Str) (ps : List Str) (R : Pr) : Prop where
  ex : ∃ (f : Addr) (fd : FuncData), mg x = some (.ref f) ∧ PySem.W.keepIn K (.ref f) = true ∧ KBn K fd ps 0 ps.reverse (fun _ ws => ws.reverse) (fun _ zs => zs.reverse) ∧ FnOk P w K mg base CX0 k f fd ps (spOf K R)
/-- a def without defaults that is called by keywords, too -/
structure DfnK (x qual : Str) (st : Stmt) (ps : List Str) : Prop where
  ex : ∃ (f : Addr) (fd : FuncData), mg x = some (.ref f) ∧ PySem.W.keepIn K (.ref f) = true ∧ Binds K fd ps [] ∧ KBn K fd ps 0 ps.reverse (fun _ ws => ws.reverse) (fun _ zs => zs.reverse) ∧ Fun K x qual st f fd
end
section
variable {P : Program} {w : World} {K : PySem.W.Frag} [HasTabs K] {mg : Str → Option Value} {base : Heap}
theorem def_okD {x qual : Str} {st : Stmt} {f : Addr} {fd : FuncData} {N ps : List Str} {k : Nat} {R : Pr} {dvs : List V} (F : FunD K x qual (defArgs st) (defBody st) (defScope st) dvs [] f fd) (S : FnScope N ps (defScope st)) (hl : ps.length ≤ N.length) (len : ∀ os Pp, R os Pp → os.length = ps.length)
    (hbody : ∀ (cdv : Value) (A : Around) (outer : List Env) (s : Shared) (H : Hp) (E : XK), Room k (A.deeper (PyProof.Rows.envOfC qual (defScope st) s.heap.objs.size f cdv)) →
      ∃ t, PSs (cxOf CX0 P w K mg base N qual (defScope st) f cdv A outer s H E).nox (defBody st) t ∧ ∀ os Pp, R os Pp → SvP K E0 t (os.map some ++ List.replicate (N.length - os.length) none) (retS os Pp))
    (noex : ∀ os Pp, R os Pp → R os (fun r us => (match r with | .ok _ => True | .ex _ _ => False) ∧ Pp r us)) : FnOk P w K mg base CX0 (k + 1) f fd ps (spOf K R) := by
  refine F.ok S (fun vs H Q E h => ?_) (fun cdv A outer s H vs Q E hr h => ?_)
  · obtain ⟨D, T, os, Pp, e, _, r, _⟩ := h
    exact e.trans (len os Pp r)
  · obtain ⟨t, ht, hb⟩ := hbody cdv A outer s H E hr
    refine ⟨t, ht.nox, ?_⟩
    obtain ⟨D, T, os, Pp, e, s1, r, k1, k2⟩ := h
    exact run_body (K := K) (E := E0) (R := R) (ps := ps) (by rw [e, len os Pp r]; exact hl) ⟨D, T, os, _, e, s1, noex os Pp r, fun v o us D' H' q => k1 v o us D' H' q.2, fun C fs us D' H' d q => q.1.elim⟩ hb
theorem DfnD.ok {x qual : Str} {st : Stmt} {N ps : List Str} {k : Nat} {R : Pr} {dv : V} (F : DfnD K mg x qual st ps dv) (S : FnScope N ps (defScope st)) (hl : ps.length ≤ N.length) (len : ∀ os Pp, R os Pp → os.length = ps.length)
    (noex : ∀ os Pp, R os Pp → R os (fun r us => (match r with | .ok _ => True | .ex _ _ => False) ∧ Pp r us))
    (hbody : ∀ (f : Addr) (cdv : Value) (A : Around) (outer : List Env) (s : Shared) (H : Hp) (E : XK), Room k (A.deeper (PyProof.Rows.envOfC qual (defScope st) s.heap.objs.size f cdv)) →
      ∃ t, PSs (cxOf CX0 P w K mg base N qual (defScope st) f cdv A outer s H E).nox (defBody st) t ∧ ∀ os Pp, R os Pp → SvP K E0 t (os.map some ++ List.replicate (N.length - os.length) none) (retS os Pp)) :
    Ok P w K mg base (k + 1) x ps R ∧ OkF P w K mg base (k + 1) x ps R dv ∧ OkK P w K mg base (k + 1) x ps R := by
  obtain ⟨f, fd, h1, h2, h3, h4, ⟨u, h5, h6⟩, h7⟩ := F.ex
  have G := def_okD h3 S hl len (hbody f) noex
  exact ⟨⟨f, fd, h1, h2, h4, G⟩, ⟨f, fd, u, h1, h2, h5, h6, G⟩, ⟨f, fd, h1, h2, h7, G⟩⟩
theorem CfnD.ok {x qual : Str} {st : Stmt} {N ps : List Str} {k : Nat} {R : Pr} {C : Addr} {dv : V} (F : CfnD K mg x qual st ps C dv) (S : FnScope N ps (defScope st)) (hl : ps.length ≤ N.length) (len : ∀ os Pp, R os Pp → os.length = ps.length)
    (noex : ∀ os Pp, R os Pp → R os (fun r us => (match r with | .ok _ => True | .ex _ _ => False) ∧ Pp r us))
    (hbody : ∀ (f : Addr) (cdv : Value) (A : Around) (outer : List Env) (s : Shared) (H : Hp) (E : XK), Room k (A.deeper (PyProof.Rows.envOfC qual (defScope st) s.heap.objs.size f cdv)) →
      ∃ t, PSs (cxOf CX0 P w K mg base N qual (defScope st) f cdv A outer s H E).nox (defBody st) t ∧ ∀ os Pp, R os Pp → SvP K E0 t (os.map some ++ List.replicate (N.length - os.length) none) (retS os Pp)) : OkC P w K mg base (k + 1) x ps C R := by
  obtain ⟨f, fd, h1, h2, h3, h4⟩ := F.ex
  exact ⟨f, fd, h1, h2, h4, def_okD h3 S hl len (hbody f) noex⟩
theorem DfnK.ok {x qual : Str} {st : Stmt} {N ps : List Str} {k : Nat} {R : Pr} (F : DfnK K mg x qual st ps) (S : FnScope N ps (defScope st)) (hl : ps.length ≤ N.length) (len : ∀ os Pp, R os Pp → os.length = ps.length)
    (noex : ∀ os Pp, R os Pp → R os (fun r us => (match r with | .ok _ => True | .ex _ _ => False) ∧ Pp r us))
    (hbody : ∀ (f : Addr) (cdv : Value) (A : Around) (outer : List Env) (s : Shared) (H : Hp) (E : XK), Room k (A.deeper (PyProof.Rows.envOfC qual (defScope st) s.heap.objs.size f cdv)) →
      ∃ t, PSs (cxOf CX0 P w K mg base N qual (defScope st) f cdv A outer s H E).nox (defBody st) t ∧ ∀ os Pp, R os Pp → SvP K E0 t (os.map some ++ List.replicate (N.length - os.length) none) (retS os Pp)) :
    Ok P w K mg base (k + 1) x ps R ∧ OkK P w K mg base (k + 1) x ps R := by
  obtain ⟨f, fd, h1, h2, h3, h4, h5⟩ := F.ex
  have G := def_ok h5 S hl len (hbody f) noex
  exact ⟨⟨f, fd, h1, h2, h3, G⟩, ⟨f, fd, h1, h2, h4, G⟩⟩
end
section
variable {X : Cx} {k : Nat} {x : Str} {ps : List Str} {R : Pr} {p pos : Pos} {e : Expr} {es : List Expr} {t tk : TA} {dv : V} {kws : List Keyword}
theorem pe_fnF {P : Program} {w : World} {K : PySem.W.Frag} [HasTabs K] {mg : Str → Option Value} {base : Heap} (O : OkF P w K mg base k x ps R dv) (hX : X.prog = P ∧ X.w = w ∧ X.K = K ∧ X.mg = mg ∧ X.base = base) (hr : Room k X.A) (hg : Gl X x) (ha : PA X (e :: es) t) (hdb : (x == ("__debug__" : Str)) = false := by decide)
    (he : starEach (e :: es) X.env = (false, eval e X.env) :: starEach es X.env := by rfl) (hpl : (backTo pos (starEach es X.env)).any (·.1) = false := by rfl) : PE X (.Call (.Name x p) (e :: es) [] pos) (tCall (spOf K R) [dv] E0 t) := by
  obtain ⟨f, fd, u, hm, hk, hv, hb, F⟩ := O.ex
  obtain ⟨rfl, rfl, rfl, rfl, rfl⟩ := hX
  exact pe_call F hr hg hm hk hb hv pass0 ha hdb he hpl
/-- a def run by names alone, the parameters told from the last one to the first -/
theorem run_byname [HasTabs X.K] {fd : FuncData} {f : Addr} {pins : List (Addr × Obj)} {σ : L2.St} {H : Hp} {s : Shared} {Q : VK} {ws : List Value} {zs : List V} (F : FnOk X.prog X.w X.K X.mg X.base CX0 k f fd ps (spOf X.K R)) (hr : Room k X.A)
    (hb : KBn X.K fd ps 0 ps.reverse (fun _ ws => ws.reverse) (fun _ zs => zs.reverse)) (I : Inv X pins σ H s) (rz : Vals zs ws) (h : spOf X.K R zs.reverse H Q E0) :
    wpAny (model X.prog X.w) X.A (call (.ref f) [] (ps.reverse.zip ws)) (EP X pins σ Q) X.xe s := by
  have rv : Vals zs.reverse ws.reverse := hb.rel .nil rz
  have en : zs.reverse.length = ps.length := F.len _ _ _ _ h
  have ew : ws.length = ps.reverse.length := by
    have := rz.length
    rw [List.length_reverse] at en ⊢
    omega
  refine wpAny_call (codeAny_mono (F.run X.A X.stack s H _ _ _ Q E0 hr I.env0 (hb.to s [] ws I.kIn rfl ew) rv h) ?_)
  intro r s2 z
  match r, z with
  | .ok (.ret u), z => exact I.after z
  | .error e, z => exact pass0 pins σ H s e s2 I z
  | .ok .next, z => exact z.elim
  | .ok .brk, z => exact z.elim
  | .ok .cont, z => exact z.elim
/-- keywords alone -/
theorem pe_fnK {P : Program} {w : World} {K : PySem.W.Frag} [HasTabs K] {mg : Str → Option Value} {base : Heap} (O : OkK P w K mg base k x ps R) (hX : X.prog = P ∧ X.w = w ∧ X.K = K ∧ X.mg = mg ∧ X.base = base) (hr : Room k X.A) (hg : Gl X x) (hkw : PK X kws tk) (hks : (backToKw pos (keywordEach kws X.env)).filterMap (·.1) = ps.reverse := by rfl) (hdb : (x == ("__debug__" : Str)) = false := by decide)
    (hall : (backToKw pos (keywordEach kws X.env)).all (·.1.isSome) = true := by rfl) (hpl : (backToKw pos (keywordEach kws X.env)).any (·.1.isNone) = false := by rfl) : PE X (.Call (.Name x p) [] kws pos) (tCallK (spOf K R) (fun _ zs => zs.reverse) E0 tNil tk) := by
  obtain ⟨f, fd, hm, hk, hb, F⟩ := O.ex
  obtain ⟨rfl, rfl, rfl, rfl, rfl⟩ := hX
  constructor
  intro pins s σ H Q I h
  refine wpAny_Call_Name_kw (ld_glob I hg hm ?_ hdb)
  refine PySem.W.callWith_KW0 (h₀ := X.base) I.ok.mod.kin hk hall ?_ hpl
  refine wpAny_mono (hkw.run pos pins s σ H _ I h) (fun ws s2 z => ?_) fun _ _ z => z
  obtain ⟨zs, H2, I2, rz, q2⟩ := z
  refine ⟨I2.kIn, ?_⟩
  rw [hks]
  exact run_byname F hr hb I2 rz q2
end
section
variable {K : PySem.W.Frag} [HasTabs K] {E : XK} {ρ : Rh} {P : EPost} {tas : TA}
theorem zip_rev {α β : Type} : ∀ {vs : List α} {os : List β}, vs.length = os.length → vs.reverse.zip os.reverse = (vs.zip os).reverse
  | [], [], _ => rfl
  | v :: vs, o :: os, e => by
    have e' : vs.length = os.length := by simpa using e
    rw [List.reverse_cons, List.reverse_cons, List.zip_append (by rw [List.length_reverse, List.length_reverse, e']), zip_rev e']
    show _ = ((v, o) :: vs.zip os).reverse
    rw [List.reverse_cons]
    rfl
/-- a call by keywords, the parameters told from the last one to the first -/
theorem ev_callK {R : Pr} (h : AvP K E tas ρ (fun os ρ1 => R os.reverse (fun r os' => P r (bks os' ρ1))) P) : EvP K E (tCallK (spOf K R) (fun _ zs => zs.reverse) E tNil tas) ρ P := by
  have g : EvP K E (tCall (fun vs => spOf K R vs.reverse) [] E tas) ρ P := by
    intro D H T σ Q s k xo
    refine h D H T σ _ s (fun vs os ρ1 D1 H1 q1 e1 s1 => ?_) xo
    rw [List.append_nil]
    have e2 : vs.reverse.length = os.reverse.length := by rw [List.length_reverse, List.length_reverse, e1]
    refine ⟨D1, T ++ toTm σ ρ1, os.reverse, fun r us => P r (bks us ρ1), e2, ?_, q1, ?_, ?_⟩
    · rw [zip_rev e1]
      have s2 := s1.out'
      rw [List.append_assoc] at s2
      exact s2.perm ((List.reverse_perm _).symm.append_right _)
    · intro v o us D' H' hp e3 s3
      have s4 : Sd K D' H' ((v, o) :: (vs.reverse.zip us ++ T) ++ toTm σ ρ1) [] [] := by
        rw [List.cons_append, List.append_assoc]
        exact s3
      have s5 := Sd.inn s1.sl s4
      exact k v o _ D' H' hp (Sd.bks2 e3 s5)
    · intro C fs us D' H' d hp e3 s3 x3
      rw [← List.append_assoc] at s3
      have s5 := Sd.inn s1.sl s3
      exact xo C fs _ D' H' d hp (Sd.bks e3 s5) x3
  intro D H T σ Q s k xo
  have := g D H T σ Q s k xo
  show tas σ H fun zs H2 => spOf K R zs.reverse H2 Q E
  refine cast ?_ this
  show (tas σ H fun vs H1 => spOf K R (vs ++ []).reverse H1 Q E) = _
  simp only [List.append_nil]
end
end DL

/-! ### Q. rows of rows: appended to, asked whether empty, told as data -/
namespace DL
open PySem L2 Evl PySem.Spec PyProof.Rows
def tTru (K : PySem.W.Frag) (ta : TE) : TT := fun σ H Q => ta σ H fun x H' => ∃ k, TruV K x H' k ∧ Q k H'
theorem pt_truK {X : Cx} {K : PySem.W.Frag} [HasTabs K] {a : Expr} {ta : TE} (hK : X.K = K) (ha : PE X a ta) (he : ∀ whole, isTrue a X.env whole = (do let v ← whole; standAt a.pos; holding [v] (truthy v))) : PT X a (tTru K ta) := by
  subst hK
  exact pt_truth ha he
section
variable {K : PySem.W.Frag} [HasTabs K] {E : XK} {D H : Hp} {T : Tm} {σ : L2.St} {ρ : Rh} {P : EPost} {S : SPost} {te ta tb tj : TE} {tas : TA} {i : Nat} {a b : Addr} {o o' : Ow} {v : V}
/-- xs[j] as a test, xs and its items owned -/
theorem tv_truO2 (hi : ∃ a xs, ρ[i]? = some (some (.l a xs))) (h : EvP K E tj ρ (bnd (fun y ρ1 => ρ1 = ρ ∧ ∃ (a b : Addr) (xs ys : List Ow) (j : Nat), y = .d (.int ((j : Nat) : Int)) ∧ ρ[i]? = some (some (.l a xs)) ∧ xs[j]? = some (.l b ys) ∧ P (.ok (.d (.bl (!ys.isEmpty)))) ρ) P)) : TvP K E (tTru K (tOp (rIxL K) (tVar i) tj)) ρ P := by
  intro D H T σ Q s k xo
  obtain ⟨a0, xs0, e0⟩ := hi
  obtain ⟨s0, _⟩ := s.getl e0
  refine ⟨.ref a0, s0, ?_⟩
  refine h D H T σ _ s (fun y z ρ1 D1 H1 q1 g => ?_) (xo.sub0 fun _ _ _ z => z)
  obtain ⟨rfl, a, b, xs, ys, j, rfl, e, ej, q⟩ := q1
  rw [e0] at e
  cases e
  have hy := g.tm (y, _) List.mem_cons_self
  cases hy with
  | d hy =>
    cases hy
    obtain ⟨_, vs, ha, hv⟩ := g.pop.getl e0
    obtain ⟨w, hw, qw⟩ := hv.get ej
    cases qw with
    | l c1 c2 =>
      rename_i us
      refine ⟨a0, vs, j, .ref b, rfl, rfl, sq_of ha, at_nat hw, !ys.isEmpty, .inl ⟨us, sq_of c1, ?_⟩, k _ _ D1 H1 q g.pop⟩
      have hl := c2.length
      cases us <;> cases ys <;> simp at hl ⊢
/-- an item goes to the end of an owned list that stands as a temporary -/
theorem ev_app2 (hi : ∃ a xs, ρ[i]? = some (some (.l a xs))) (h : EvP K E tj ρ (bnd (fun y ρ1 => ρ1 = ρ ∧ ∃ (a b : Addr) (xs ys : List Ow) (j : Nat), y = .d (.int ((j : Nat) : Int)) ∧ ρ[i]? = some (some (.l a xs)) ∧ xs[j]? = some (.l b ys) ∧ ys.length < 100000 ∧
    EvP K E te ρ (bnd (fun z ρ2 => ρ2 = ρ ∧ ∃ d, z = .d d ∧ P (.ok (.d .non)) (ρ.set i (some (.l a (xs.set j (.l b (ys ++ [.d d]))))))) P)) P)) : EvP K E (tBM K "list" rAppend (tOp (rIxL K) (tVar i) tj) (tCons te tNil)) ρ P := by
  intro D H T σ Q s k xo
  obtain ⟨a0, xs0, e0⟩ := hi
  obtain ⟨s0, _⟩ := s.getl e0
  refine ⟨.ref a0, s0, ?_⟩
  refine h D H T σ _ s (fun y z ρ1 D1 H1 q1 g => ?_) (xo.sub0 fun _ _ _ z => z)
  obtain ⟨rfl, a, b, xs, ys, j, rfl, e, ej, hly, q⟩ := q1
  rw [e0] at e
  cases e
  have hy := g.tm (y, _) List.mem_cons_self
  cases hy with
  | d hy =>
    cases hy
    obtain ⟨_, vs, ha, hv⟩ := g.pop.getl e0
    obtain ⟨w, hw, qw⟩ := hv.get ej
    have hwr : w = .ref b := root_ref rfl qw
    subst hwr
    have hb1 : ∃ us, H1 b = some (.lst us) := by
      cases qw with
      | l c1 _ => exact ⟨_, c1⟩
    obtain ⟨us1, hb1⟩ := hb1
    refine ⟨a0, vs, j, .ref b, rfl, rfl, sq_of ha, at_nat hw, tyv hb1, ?_⟩
    refine q D1 H1 T σ _ g.pop (fun u z ρ2 D2 H2 q2 g2 => ?_) (xo.sub0 fun _ _ _ z => z)
    obtain ⟨rfl, d, rfl, q⟩ := q2
    obtain ⟨_, g3⟩ := (g2.pop).move e0 rfl
    have gu := g2.tm (u, _) List.mem_cons_self
    cases gu with
    | d gu =>
      have g4 := (g3.focus ej rfl).push gu
      obtain ⟨acc, hacc, hlen, g5⟩ := g4.app
      refine ⟨b, acc, u, rfl, rfl, hacc, sz_lt (by rw [hlen]; exact hly), ?_⟩
      have hj : j < xs0.length := (List.getElem?_eq_some_iff.mp ej).1
      have g6 := g5.unfocus (b := b) (j := j) (by rw [List.getElem?_set_self hj]) rfl
      rw [List.set_set] at g6
      have g7 := g6.back rfl (set_m (o := .l a0 xs0) e0)
      rw [List.set_set] at g7
      exact k _ _ _ _ _ q (g7.push .non)
/-! owned things become data -/
def inD (D H : Hp) (L : List Addr) : Hp := fun b => if b ∈ L then H b else D b
theorem inD_ex {L : List Addr} (h : ∀ b ∈ L, D b = none) : Ex D (inD D H L) := fun b u e => by
  show (if b ∈ L then H b else D b) = some u
  rw [if_neg (fun z => by rw [h b z] at e; cases e)]
  exact e
mutual
theorem DenO.dataIn {L : List Addr} (hL : ∀ b ∈ L, D b = none) : ∀ {v : V} {o : Ow}, DenO K D H v o → o.okR = true → (∀ b ∈ o.fp, b ∈ L) → Den K (inD D H L) v o.dat
  | _, _, .d h, _, _ => h.mono (inD_ex hL)
  | _, _, .m a, k, _ => by cases k
  | _, _, .l h r, k, m => .lst (by show (if _ ∈ L then H _ else D _) = _; rw [if_pos (m _ (by unfold Ow.fp; exact List.mem_cons_self))]; exact h) (DenOs.dataIn hL r (by unfold Ow.okR at k; exact k) fun b hb => m b (by unfold Ow.fp; exact List.mem_cons_of_mem _ hb))
  | _, _, .t h r, k, _ => by cases k
  | _, _, .z h r, k, _ => by cases k
  | _, _, .o h r, _, m => .obj (by show (if _ ∈ L then H _ else D _) = _; rw [if_pos (m _ (by unfold Ow.fp; exact List.mem_cons_self))]; exact h) (r.mono (inD_ex hL))
theorem DenOs.dataIn {L : List Addr} (hL : ∀ b ∈ L, D b = none) : ∀ {v : List V} {o : List Ow}, DenOs K D H v o → okRs o = true → (∀ b ∈ fps o, b ∈ L) → DenAll K (inD D H L) v (dats o)
  | _, _, .nil, _, _ => .nil
  | _, _, .cons h r, k, m => by
    unfold okRs at k
    rw [Bool.and_eq_true] at k
    exact .cons (DenO.dataIn hL h k.1 fun b hb => m b (by unfold fps; exact List.mem_append_left _ hb)) (DenOs.dataIn hL r k.2 fun b hb => m b (by unfold fps; exact List.mem_append_right _ hb))
end
theorem Sd.frzD (h : Sd K D H ((v, o) :: T) σ ρ) (k : o.okR = true) : ∃ D', Sd K D' H ((v, .d o.dat) :: T) σ ρ := by
  have ho := h.tm (v, o) List.mem_cons_self
  have hL : ∀ b ∈ o.fp, D b = none := fun b hb => h.out b (List.mem_append_left _ (List.mem_append_left _ hb))
  have nd : (o.fp ++ (fpT T ++ fpR ρ)).Nodup := by
    have := h.nd
    rw [show fpT ((v, o) :: T) = o.fp ++ fpT T from rfl, List.append_assoc] at this
    exact this
  have nb : ∀ c ∈ fpT T ++ fpR ρ, c ∉ o.fp := fun c hc z => (List.nodup_append.mp nd).2.2 c z c hc rfl
  refine ⟨inD D H o.fp, (h.pop.grow (inD_ex hL) (fun b u e => ?_) (fun _ _ _ hu => hu) fun c hc => ?_).push (ho.dataIn hL k fun b hb => hb)⟩
  · have e' : (if b ∈ o.fp then H b else D b) = some u := e
    by_cases z : b ∈ o.fp
    · rw [if_pos z] at e'; exact e'
    · rw [if_neg z] at e'; exact h.ex b u e'
  · show (if c ∈ o.fp then H c else D c) = none
    rw [if_neg (nb c hc)]
    exact h.out c (by
      rcases List.mem_append.mp hc with z | z
      · exact List.mem_append_left _ (List.mem_append_right _ z)
      · exact List.mem_append_right _ z)
/-- an owned slot is read as data from now on -/
theorem ev_lF {xs : List Ow} (e : ρ[i]? = some (some (.l a xs))) (k : okRs xs = true) (q : P (.ok (.d (.lst (dats xs)))) (ρ.set i (some (.d (.lst (dats xs)))))) : EvP K E (tVar i) ρ P := by
  intro D H T σ Q s kk xo
  obtain ⟨h1, g⟩ := s.move e rfl
  obtain ⟨D', g2⟩ := g.frzD (by unfold Ow.okR; exact k)
  have hd := g2.tm (.ref a, _) List.mem_cons_self
  cases hd with
  | d hd =>
    refine ⟨.ref a, h1, kk _ _ _ D' H q ?_⟩
    have hi : i < σ.length := (List.getElem?_eq_some_iff.mp h1).1
    have g3 := (g2.push hd).toSlot i hi
    rw [List.set_set] at g3
    have es : σ.set i (some (.ref a)) = σ := by
      obtain ⟨l, hl⟩ := List.getElem?_eq_some_iff.mp h1
      rw [← hl]
      exact List.set_getElem_self l
    rw [es] at g3
    exact g3
/-- a new owned thing as data -/
theorem ev_frzD (h : EvP K E te ρ (fun r ρ' => match r with | .ok o => o.okR = true ∧ P (.ok (.d o.dat)) ρ' | .ex C fs => P (.ex C fs) ρ')) : EvP K E te ρ P := by
  intro D H T σ Q s k xo
  refine h D H T σ Q s (fun v o ρ' D' H' q g => ?_) xo
  obtain ⟨D2, g2⟩ := g.frzD q.1
  exact k v _ ρ' D2 H' q.2 g2
/-- script[j] -/
theorem ev_ixScr (h : EvP K E ta ρ (bnd (fun x ρ1 => EvP K E tb ρ1 (bnd (fun y ρ2 => ∃ ns j z, x = .d (.scr ns) ∧ y = .d (.int j) ∧ atI ns j = some z ∧ P (.ok (.d (.int z))) ρ2) P)) P)) : EvP K E (tOp (rIxL K) ta tb) ρ P := by
  refine ev_op (h.mono fun r ρ1 z => ?_)
  cases r with
  | ex C fs => exact z
  | ok x =>
    refine EvP.mono z fun r ρ2 z2 => ?_
    cases r with
    | ex C fs => exact z2
    | ok y =>
      obtain ⟨ns, j, z, rfl, rfl, e, q⟩ := z2
      exact ⟨rfl, rfl, _, aop_scr e, q⟩
theorem bkG_l {o : Ow} {b c : Addr} {x : List Ow} {r : Rh} : bkG o b (some (.l c x) :: r) = some (.l c x) :: bkG o b r := rfl
/-! a comprehension whose items change the state: J is kept -/
theorem lcp_J {α β : Type} {g : TG} {ws vs : List Nat} {emb : α → Dat} (f : β → Dat) (Rz : β → Prop) (J : Rh → Prop) {Pl : List Ow → Rh → Prop} : ∀ (xs : List α) (acc : List Ow) (ρ : Rh), J ρ →
    (∀ a ∈ xs, ∀ ρ, J ρ → GvP K g ws ρ (emb a) (fun ρ2 => EvP K E0 te ρ2 (onE fun o ρ4 => (∃ z, o = .d (f z) ∧ Rz z) ∧ J (wp ρ4 vs)))) →
    (∀ (zs : List β) (ρ' : Rh), zs.length = xs.length → (∀ z ∈ zs, Rz z) → J ρ' → Pl (acc ++ (zs.map f).map Ow.d) ρ') → LcP K g ws tYes te vs (xs.map emb) ρ acc Pl
  | [], acc, ρ, hj, _, q => by
    have := q [] ρ rfl (fun _ h => nomatch h) hj
    simpa [LcP] using this
  | a :: xs, acc, ρ, hj, h, q => by
    intro D H T σ x Q s k
    refine h a List.mem_cons_self ρ hj D H T σ x Q s fun σ' ρ' D' H' z => k σ' ρ' D' H' ?_
    refine tv_yes ⟨true, rfl, fun _ => ?_, fun e => by cases e⟩
    refine EvP.mono z fun r ρ4 z4 => ?_
    cases r with
    | ex C fs => exact z4
    | ok o =>
      obtain ⟨⟨z, rfl, hz⟩, hj4⟩ := z4
      exact lcp_J f Rz J xs _ _ hj4 (fun b hb => h b (List.mem_cons_of_mem _ hb)) fun zs ρ' hl hr hj' => by
        have := q (z :: zs) ρ' (by simp [hl]) (fun y hy => by rcases List.mem_cons.mp hy with e | e; (· subst e; exact hz); exact hr y e) hj'
        simpa using this
theorem ev_lcJ {α β : Type} {wi : TI} {g : TG} {ws vs : List Nat} (emb : α → Dat) (f : β → Dat) (Rz : β → Prop) (J : Rh → Prop) (hws : ∀ j ∈ ws, j ∈ vs) (h : IvP K E wi ρ (fun ds os ρ1 => ∃ xs : List α, ds = xs.map emb ∧ xs.length ≤ 100000 ∧ J (wp ρ1 vs) ∧
    (∀ a ∈ xs, ∀ ρ, J ρ → GvP K g ws ρ (emb a) (fun ρ2 => EvP K E0 te ρ2 (onE fun o ρ4 => (∃ z, o = .d (f z) ∧ Rz z) ∧ J (wp ρ4 vs)))) ∧
    (∀ (zs : List β) (ρ' : Rh), zs.length = xs.length → (∀ z ∈ zs, Rz z) → J ρ' → P (.ok (.d (.lst (zs.map f)))) (bks os (wp ρ' vs)))) P) : EvP K E (tLc wi g tYes te vs) ρ P := by
  refine ev_frz (ev_lc hws ?_)
  intro D H T σ R' s k xo
  refine h D H T σ R' s (fun J' A ds ρ' D' H' q => k J' A ds ρ' D' H' ?_) xo
  obtain ⟨xs, rfl, hl, hj, hb, q⟩ := q
  refine ⟨by rw [List.length_map]; exact hl, lcp_J f Rz J xs [] _ hj hb fun zs ρ2 e1 e2 e3 b => ?_⟩
  exact ⟨b, zs.map f, rfl, q zs ρ2 e1 e2 e3⟩
theorem ev_tup2 (h : EvP K E ta ρ (bnd (fun x ρ1 => ∃ d, x = .d d ∧ EvP K E tb ρ1 (bnd (fun y ρ2 => ∃ e, y = .d e ∧ P (.ok (.d (.tup [d, e]))) ρ2) P)) P)) : EvP K E (tTup (tCons ta (tCons tb tNil))) ρ P := by
  refine ev_tup (ds := []) (av_cons (h.mono fun r ρ1 z => ?_))
  cases r with
  | ex C fs => exact z
  | ok x =>
    obtain ⟨d, rfl, z⟩ := z
    refine av_cons (z.mono fun r ρ2 z2 => ?_)
    cases r with
    | ex C fs => exact z2
    | ok y =>
      obtain ⟨e, rfl, z2⟩ := z2
      exact av_nil ⟨[d, e], rfl, Nat.le_of_ble_eq_true rfl, z2⟩
theorem ev_tup3 (h : EvP K E ta ρ (bnd (fun x ρ1 => ∃ d, x = .d d ∧ EvP K E tb ρ1 (bnd (fun y ρ2 => ∃ e, y = .d e ∧ EvP K E tj ρ2 (bnd (fun z ρ3 => ∃ f, z = .d f ∧ P (.ok (.d (.tup [d, e, f]))) ρ3) P)) P)) P)) : EvP K E (tTup (tCons ta (tCons tb (tCons tj tNil)))) ρ P := by
  refine ev_tup (ds := []) (av_cons (h.mono fun r ρ1 z => ?_))
  cases r with
  | ex C fs => exact z
  | ok x =>
    obtain ⟨d, rfl, z⟩ := z
    refine av_cons (z.mono fun r ρ2 z2 => ?_)
    cases r with
    | ex C fs => exact z2
    | ok y =>
      obtain ⟨e, rfl, z2⟩ := z2
      refine av_cons (z2.mono fun r ρ3 z3 => ?_)
      cases r with
      | ex C fs => exact z3
      | ok u =>
        obtain ⟨f, rfl, z3⟩ := z3
        exact av_nil ⟨[d, e, f], rfl, Nat.le_of_ble_eq_true rfl, z3⟩
end
end DL

/-! ### R. a list told backwards by a computed step; an owned row asked whether it is [] -/
namespace DL
open PySem L2 Evl PySem.Spec PyProof.Rows
section
variable {X : Cx}
/-- xs[::0 - 1] -/
theorem pe_rev0 {K : PySem.W.Frag} [HasTabs K] {e : Expr} {te : TE} {k1 k2 : Nat} {p1 p2 p3 p4 pos : Pos} (hK : X.K = K) (he : PE X e te) : PE X (.Subscript e (.Slice none none (some (.BinOp (.Constant (.int 0) k1 p1) .Sub (.Constant (.int 1) k2 p2) p3)) p4) pos) (tRevL K te) := by
  subst hK
  have hst : PO X (some (.BinOp (.Constant (.int 0) k1 p1) .Sub (.Constant (.int 1) k2 p2) p3)) (tPart (tOp (rI0 fun i j => .int (i - j)) (tC (.int 0)) (tC (.int 1)))) := po_some (pe_op op_sub pe_int pe_int)
  constructor
  intro pins s σ H Q I h
  refine Subscript_ (wpAny_mono (he.run pins s σ H _ I h) (fun v s1 z => ?_) fun _ _ z => z)
  obtain ⟨x, H1, I1, rv, a, xs, rfl, hx, q⟩ := z
  obtain rfl : v = Value.ref a := rv
  refine wpAny_Slice (wpAny_mono (po_none.run pins s1 σ H1 (fun o H2 => o = none ∧ H2 = H1) I1 ⟨rfl, rfl⟩) (fun vl s2 z => ?_) fun _ _ z => z)
  obtain ⟨l, H2, I2, pl, rfl, rfl⟩ := z
  refine wpAny_mono (po_none.run pins s2 σ H2 (fun o H3 => o = none ∧ H3 = H2) I2 ⟨rfl, rfl⟩) (fun vu s3 z => ?_) fun _ _ z => z
  obtain ⟨u, H3, I3, pu, rfl, rfl⟩ := z
  refine wpAny_mono (hst.run pins s3 σ H3 (fun o H4 => o = some (-1) ∧ H4 = H3) I3 ⟨0, 1, rfl, rfl, -1, rfl, rfl, rfl⟩) (fun vs s4 z => ?_) fun _ _ z => z
  obtain ⟨o, H4, I4, ps, rfl, rfl⟩ := z
  have I5 : Inv X pins σ H4 { s4 with heap := s4.heap.push { cls := .type "slice", data := .fields #[vl, vu, vs] } } := I4.kept (t' := s4.toks) fun b ob z => Heap.get?_push_of_some _ z
  obtain ⟨its, r, ht, hz⟩ := I5.list hx
  have hlen := r.length
  refine tail_any (ops := [.ref a, .ref s4.heap.objs.size]) ht.isList.typeIs (PySem.slot_list_getitem.lookup) ?_ (by with_unfolding_all rfl)
  refine wpAny_getItem_list_slice ht.isList (Heap.IsSliceOf.new _ vl vu vs) pl pu ps (by decide) ?_ (by rw [List.size_toArray]; omega)
  rw [PySem.W.krv_pick]
  refine ⟨.ref _, _, I5.laid (t' := s4.toks) (o := .lst xs.reverse) (fun b ob z => Heap.get?_push_of_some _ z) (Nat.le_refl _) ⟨by rw [List.length_reverse]; exact hz, _, 0, r.reverse, Heap.get?_push_size _ rfl⟩, rfl, q _ (I5.hok.fresh (Nat.le_refl _))⟩
end
section
variable {K : PySem.W.Frag} [HasTabs K] {E : XK} {ρ : Rh} {P : EPost} {tj : TE} {i : Nat}
/-- xs[j] != [], xs and its items owned, the items' items data -/
theorem ev_neNil (hi : ∃ a xs, ρ[i]? = some (some (.l a xs))) (h : EvP K E tj ρ (bnd (fun y ρ1 => ρ1 = ρ ∧ ∃ (a b : Addr) (xs : List Ow) (ds : List Dat) (j : Nat), y = .d (.int ((j : Nat) : Int)) ∧ ρ[i]? = some (some (.l a xs)) ∧ xs[j]? = some (.l b (ds.map Ow.d)) ∧ pures ds = true ∧ SeqAt.shaped (Dat.lst ds).py = true ∧ P (.ok (.d (.bl (!ds.isEmpty)))) ρ) P)) :
    EvP K E (tOp (rNeD K) (tOp (rIxL K) (tVar i) tj) (tLst tNil)) ρ P := by
  intro D H T σ Q s k xo
  obtain ⟨a0, xs0, e0⟩ := hi
  obtain ⟨s0, _⟩ := s.getl e0
  refine ⟨.ref a0, s0, ?_⟩
  refine h D H T σ _ s (fun y z ρ1 D1 H1 q1 g => ?_) (xo.sub0 fun _ _ _ z => z)
  obtain ⟨rfl, a, b, xs, ds, j, rfl, e, ej, hp, hs, q⟩ := q1
  rw [e0] at e
  cases e
  have hy := g.tm (y, _) List.mem_cons_self
  cases hy with
  | d hy =>
    cases hy
    obtain ⟨_, vs, ha, hv⟩ := g.pop.getl e0
    obtain ⟨w, hw, qw⟩ := hv.get ej
    cases qw with
    | l c1 c2 =>
      refine ⟨a0, vs, j, .ref b, rfl, rfl, sq_of ha, at_nat hw, ?_⟩
      refine ev_lst (E := E0) (P := onE fun o ρ' => o = .d (.lst []) ∧ ρ' = ρ1) (av_nil ⟨[], rfl, Nat.le_of_ble_eq_true rfl, onE_ok ⟨rfl, rfl⟩⟩) D1 H1 T σ _ g.pop (fun u o ρ2 D2 H2 z g2 => ?_) .no
      obtain ⟨rfl, rfl⟩ := z
      have hu := g2.tm (u, _) List.mem_cons_self
      cases hu with
      | d hu =>
        have s3 := g2.pop
        obtain ⟨_, vs2, ha2, hv2⟩ := s3.getl e0
        obtain ⟨w2, hw2, qw2⟩ := hv2.get ej
        have hwr : w2 = .ref b := root_ref rfl qw2
        subst hwr
        have hd := DenO.read s3.ex qw2 (by unfold Ow.okR; exact okRs_map ds)
        have hdat : (Ow.l b (ds.map Ow.d)).dat = Dat.lst ds := by unfold Ow.dat; rw [dats_map]
        rw [hdat] at hd
        refine ⟨_, _, hd.dp (show pures ds = true from hp), (hu.mono s3.ex).dp rfl, hs, rfl, ?_⟩
        have ee : PyData.eqv (Dat.lst ds).py (Dat.lst []).py = ds.isEmpty := by cases ds <;> rfl
        rw [ee]
        exact k _ _ _ D2 H2 q (s3.push (.bl _))
end
end DL

/-! ### S. data that can be compared -/
namespace DL
open PySem L2 Evl PySem.Spec PyProof.Rows
def Nice (n : Nat) (d : Dat) : Prop := d.pure = true ∧ d.py.canLay0 = true ∧ d.py.depth ≤ n
theorem nice_int {n : Nat} (i : Int) : Nice n (.int i) := ⟨rfl, rfl, Nat.zero_le _⟩
theorem nice_bl {n : Nat} (b : Bool) : Nice n (.bl b) := ⟨rfl, rfl, Nat.zero_le _⟩
theorem nice_non {n : Nat} : Nice n .non := ⟨rfl, rfl, Nat.zero_le _⟩
theorem nices {n : Nat} : ∀ {xs : List Dat}, (∀ x ∈ xs, Nice n x) → pures xs = true ∧ PyData.canLayAll0 (pys xs) = true ∧ PyData.depthAll (pys xs) ≤ n
  | [], _ => ⟨rfl, rfl, Nat.zero_le _⟩
  | x :: xs, h => by
    obtain ⟨a1, a2, a3⟩ := h x List.mem_cons_self
    obtain ⟨b1, b2, b3⟩ := nices (xs := xs) fun y hy => h y (List.mem_cons_of_mem _ hy)
    refine ⟨?_, ?_, ?_⟩
    · show (x.pure && pures xs) = true
      rw [a1, b1]; rfl
    · show (x.py.canLay0 && PyData.canLayAll0 (pys xs)) = true
      rw [a2, b2]; rfl
    · show max x.py.depth (PyData.depthAll (pys xs)) ≤ n
      omega
theorem nice_lst {n : Nat} {xs : List Dat} (h : ∀ x ∈ xs, Nice n x) : Nice (n + 1) (.lst xs) := by
  obtain ⟨a, b, c⟩ := nices h
  exact ⟨a, b, by show PyData.depthAll (pys xs) + 1 ≤ _; omega⟩
theorem nice_tup {n : Nat} {xs : List Dat} (h : ∀ x ∈ xs, Nice n x) : Nice (n + 1) (.tup xs) := by
  obtain ⟨a, b, c⟩ := nices h
  exact ⟨a, b, by show PyData.depthAll (pys xs) + 1 ≤ _; omega⟩
theorem nice_map {α : Type} {n : Nat} {f : α → Dat} {xs : List α} (h : ∀ x ∈ xs, Nice n (f x)) : ∀ d ∈ xs.map f, Nice n d := fun d hd => by
  obtain ⟨x, hx, rfl⟩ := List.mem_map.mp hd
  exact h x hx
theorem Nice.shaped {n : Nat} {d : Dat} (h : Nice n d) (hn : n ≤ 64) : SeqAt.shaped d.py = true := by
  unfold SeqAt.shaped
  rw [h.2.1, decide_eq_true (show d.py.depth ≤ 64 by have := h.2.2; omega)]
  rfl
theorem Nice.same {n : Nat} {d : Dat} (h : Nice n d) : PyData.eqv d.py d.py = true := SeqAt.eqv_refl _ h.2.1
/-- both sides of a comparison -/
theorem Nice.two {n m : Nat} {d e : Dat} (h : Nice n d) (k : Nice m e) (hn : n ≤ 64) (hm : m ≤ 64) : d.pure = true ∧ e.pure = true ∧ SeqAt.shaped d.py = true ∧ SeqAt.shaped e.py = true := ⟨h.1, k.1, h.shaped hn, k.shaped hm⟩
end DL

/-! ### T. slices of data lists, tuples repeated, max and min of two -/
namespace DL
open PySem L2 Evl PySem.Spec PyProof.Rows
section
variable {K : PySem.W.Frag} [HasTabs K] {E : XK} {ρ : Rh} {P : EPost} {ta tb te : TE} {tas : TA}
def cutD (xs : List Dat) (lo hi : Option Int) : List Dat := (xs.drop (HT.sIx xs.length 0 lo)).take (HT.sIx xs.length xs.length hi - HT.sIx xs.length 0 lo)
theorem cutD_mem {xs : List Dat} {lo hi : Option Int} {x : Dat} (h : x ∈ cutD xs lo hi) : x ∈ xs := List.mem_of_mem_drop (List.mem_of_mem_take h)
theorem cutD_len (xs : List Dat) (lo hi : Option Int) : (cutD xs lo hi).length ≤ xs.length := by
  unfold cutD
  rw [List.length_take, List.length_drop]
  omega
theorem cut_den {D : Hp} {vs : List V} {xs : List Dat} (h : DenAll K D vs xs) (lo hi : Option Int) : DenAll K D (cutV vs lo hi) (cutD xs lo hi) := by
  unfold cutV cutD
  rw [h.length]
  exact (h.drop _).take _
/-- xs[:b] -/
theorem ev_slU (h : EvP K E te ρ (bnd (fun x ρ1 => ∃ ds, x = .d (.lst ds) ∧ EvP K E tb ρ1 (bnd (fun y ρ2 => ∃ j, y = .d (.int j) ∧ P (.ok (.d (.lst (cutD ds none (some j))))) ρ2) P)) P)) : EvP K E (tSl (rSlL K) te tNoPart (tPart tb)) ρ P := by
  intro D H T σ Q s k xo
  refine h D H T σ _ s (fun v x ρ1 D1 H1 q1 s1 => ?_) (xo.sub0 fun _ _ _ z => z)
  obtain ⟨ds, rfl, q1⟩ := q1
  refine q1 D1 H1 _ σ _ s1 (fun w y ρ2 D2 H2 q2 s2 => ?_) (xo.sub1 fun _ _ _ z => z)
  obtain ⟨j, rfl, hp⟩ := q2
  have hx := s2.tm (v, _) (List.mem_cons_of_mem _ List.mem_cons_self)
  have hy := s2.tm (w, _) List.mem_cons_self
  cases hy with
  | d hy =>
    cases hy
    cases hx with
    | d hx =>
      cases hx with
      | lst g1 g2 =>
        have s3 : Sd K D2 H2 T σ ρ2 := s2.pop.pop
        exact ⟨j, rfl, _, _, rfl, SqL.of (s2.ex _ _ g1), fun l hl => k _ _ _ _ _ hp ((s3.new hl _).push (.lst upd_same ((cut_den g2 none (some j)).mono (Ex.new (s3.dnone hl)))))⟩
/-- xs[a:] -/
theorem ev_slL (h : EvP K E te ρ (bnd (fun x ρ1 => ∃ ds, x = .d (.lst ds) ∧ EvP K E ta ρ1 (bnd (fun y ρ2 => ∃ j, y = .d (.int j) ∧ P (.ok (.d (.lst (cutD ds (some j) none)))) ρ2) P)) P)) : EvP K E (tSl (rSlL K) te (tPart ta) tNoPart) ρ P := by
  intro D H T σ Q s k xo
  refine h D H T σ _ s (fun v x ρ1 D1 H1 q1 s1 => ?_) (xo.sub0 fun _ _ _ z => z)
  obtain ⟨ds, rfl, q1⟩ := q1
  refine q1 D1 H1 _ σ _ s1 (fun w y ρ2 D2 H2 q2 s2 => ?_) (xo.sub1 fun _ _ _ z => z)
  obtain ⟨j, rfl, hp⟩ := q2
  have hx := s2.tm (v, _) (List.mem_cons_of_mem _ List.mem_cons_self)
  have hy := s2.tm (w, _) List.mem_cons_self
  cases hy with
  | d hy =>
    cases hy
    cases hx with
    | d hx =>
      cases hx with
      | lst g1 g2 =>
        have s3 : Sd K D2 H2 T σ ρ2 := s2.pop.pop
        exact ⟨j, rfl, _, _, rfl, SqL.of (s2.ex _ _ g1), fun l hl => k _ _ _ _ _ hp ((s3.new hl _).push (.lst upd_same ((cut_den g2 (some j) none).mono (Ex.new (s3.dnone hl)))))⟩
/-- (x,) * n -/
theorem ev_repT (h : EvP K E ta ρ (bnd (fun x ρ1 => EvP K E tb ρ1 (bnd (fun y ρ2 => ∃ d j, x = .d (.tup [d]) ∧ y = .d (.int j) ∧ 2 ≤ j ∧ j ≤ 1000 ∧ P (.ok (.d (.tup (List.replicate j.toNat d)))) ρ2) P)) P)) : EvP K E (tOp (rRepT K) ta tb) ρ P := by
  intro D H T σ Q s k xo
  refine h D H T σ _ s (fun v x ρ1 D1 H1 q1 s1 => ?_) (xo.sub0 fun _ _ _ z => z)
  refine q1 D1 H1 _ σ _ s1 (fun w y ρ2 D2 H2 q2 s2 => ?_) (xo.sub1 fun _ _ _ z => z)
  obtain ⟨d, j, rfl, rfl, h0, hj, hp⟩ := q2
  have hx := s2.tm (v, _) (List.mem_cons_of_mem _ List.mem_cons_self)
  have hy := s2.tm (w, _) List.mem_cons_self
  cases hy with
  | d hy =>
    cases hy
    cases hx with
    | d hx =>
      cases hx with
      | tup g1 g2 =>
        cases g2 with
        | cons g2 gn =>
          cases gn
          rename_i a1 u
          have s3 : Sd K D2 H2 T σ ρ2 := s2.pop.pop
          refine ⟨a1, j, [u], rfl, rfl, ?_, by simp, h0, hj, by simp, ?_⟩
          · exact SqT.of (s2.ex _ _ g1)
          intro l hl
          refine k _ _ _ _ _ hp ((s3.new hl _).push (.tup upd_same ?_))
          have e : ∀ n : Nat, DenAll K D2 ((List.replicate n [u]).flatten) (List.replicate n d) := by
            intro n
            induction n with
            | zero => exact .nil
            | succ n ih => exact .cons g2 ih
          exact (e _).mono (Ex.new (s3.dnone hl))
theorem TvP.mono {P' : EPost} {tt : TT} (h : TvP K E tt ρ P) (m : ∀ r ρ', P r ρ' → P' r ρ') : TvP K E tt ρ P' := fun D H T σ Q s k x => h D H T σ Q s (fun v ρ' D' H' q => k v ρ' D' H' (m _ _ q)) fun C fs ρ' D' H' d q => x C fs ρ' D' H' d (m _ _ q)
/-- a test that comes to c and leaves the state -/
theorem tv_dec {tt : TT} (c : Bool) (h : TvP K E tt ρ (fun r ρ' => r = .ok (.d (.bl c)) ∧ ρ' = ρ)) (q : P (.ok (.d (.bl c))) ρ) : TvP K E tt ρ P := h.mono fun r ρ' z => by rw [z.1, z.2]; exact q
/-! a comprehension whose items change the state: J is kept, each item is told by the one it is made of -/
theorem lcp_J2 {α β : Type} {g : TG} {ws vs : List Nat} {emb : α → Dat} (f : β → Dat) (R : α → β → Prop) (J : Rh → Prop) {Pl : List Ow → Rh → Prop} : ∀ (xs : List α) (acc : List Ow) (ρ : Rh), J ρ →
    (∀ a ∈ xs, ∀ ρ, J ρ → GvP K g ws ρ (emb a) (fun ρ2 => EvP K E0 te ρ2 (onE fun o ρ4 => (∃ z, o = .d (f z) ∧ R a z) ∧ J (wp ρ4 vs)))) →
    (∀ (zs : List β) (ρ' : Rh), All2 R xs zs → J ρ' → Pl (acc ++ (zs.map f).map Ow.d) ρ') → LcP K g ws tYes te vs (xs.map emb) ρ acc Pl
  | [], acc, ρ, hj, _, q => by
    have := q [] ρ .nil hj
    simpa [LcP] using this
  | a :: xs, acc, ρ, hj, h, q => by
    intro D H T σ x Q s k
    refine h a List.mem_cons_self ρ hj D H T σ x Q s fun σ' ρ' D' H' z => k σ' ρ' D' H' ?_
    refine tv_yes ⟨true, rfl, fun _ => ?_, fun e => by cases e⟩
    refine EvP.mono z fun r ρ4 z4 => ?_
    cases r with
    | ex C fs => exact z4
    | ok o =>
      obtain ⟨⟨z, rfl, hz⟩, hj4⟩ := z4
      exact lcp_J2 f R J xs _ _ hj4 (fun b hb => h b (List.mem_cons_of_mem _ hb)) fun zs ρ' hr hj' => by
        have := q (z :: zs) ρ' (.cons hz hr) hj'
        simpa using this
theorem ev_lcJ2 {α β : Type} {wi : TI} {g : TG} {ws vs : List Nat} (emb : α → Dat) (f : β → Dat) (R : α → β → Prop) (J : Rh → Prop) (hws : ∀ j ∈ ws, j ∈ vs) (h : IvP K E wi ρ (fun ds os ρ1 => ∃ xs : List α, ds = xs.map emb ∧ xs.length ≤ 100000 ∧ J (wp ρ1 vs) ∧
    (∀ a ∈ xs, ∀ ρ, J ρ → GvP K g ws ρ (emb a) (fun ρ2 => EvP K E0 te ρ2 (onE fun o ρ4 => (∃ z, o = .d (f z) ∧ R a z) ∧ J (wp ρ4 vs)))) ∧
    (∀ (zs : List β) (ρ' : Rh), All2 R xs zs → J ρ' → P (.ok (.d (.lst (zs.map f)))) (bks os (wp ρ' vs)))) P) : EvP K E (tLc wi g tYes te vs) ρ P := by
  refine ev_frz (ev_lc hws ?_)
  intro D H T σ R' s k xo
  refine h D H T σ R' s (fun J' A ds ρ' D' H' q => k J' A ds ρ' D' H' ?_) xo
  obtain ⟨xs, rfl, hl, hj, hb, q⟩ := q
  refine ⟨by rw [List.length_map]; exact hl, lcp_J2 f R J xs [] _ hj hb fun zs ρ2 e1 e3 b => ?_⟩
  exact ⟨b, zs.map f, rfl, q zs ρ2 e1 e3⟩
theorem All2.back {α β : Type} {R : α → β → Prop} {xs : List α} {ys : List β} (h : All2 R xs ys) : ∀ {j : Nat} {y : β}, ys[j]? = some y → ∃ x, xs[j]? = some x ∧ R x y := by
  induction h with
  | nil => intro j y e; simp at e
  | cons q t ih =>
    intro j y e
    cases j with
    | zero => simp at e; subst e; exact ⟨_, rfl, q⟩
    | succ j => exact ih (by simpa using e)
theorem All2.len {α β : Type} {R : α → β → Prop} {xs : List α} {ys : List β} (h : All2 R xs ys) : ys.length = xs.length := by
  induction h with
  | nil => rfl
  | cons q t ih => simp [ih]
def rMin2 : List V → Hp → VK → Prop := fun xs H Q => ∃ i j, xs = [.int i, .int j] ∧ Q (.int (if j < i then j else i)) H
theorem acb_max2 {i j : Int} : ACb K rMax2 [.int i, .int j] (.int (if j > i then j else i)) := ⟨rfl, fun H vs Q h q => by
  cases h with
  | cons h1 h2 =>
    cases h2 with
    | cons h2 h3 =>
      cases h3
      cases h1
      cases h2
      exact ⟨i, j, rfl, q⟩⟩
theorem acb_min2 {i j : Int} : ACb K rMin2 [.int i, .int j] (.int (if j < i then j else i)) := ⟨rfl, fun H vs Q h q => by
  cases h with
  | cons h1 h2 =>
    cases h2 with
    | cons h2 h3 =>
      cases h3
      cases h1
      cases h2
      exact ⟨i, j, rfl, q⟩⟩
theorem ev_max2 (h : AvP K E tas ρ (fun os ρ1 => ∃ a b : Int, os = [.d (.int a), .d (.int b)] ∧ P (.ok (.d (.int (if b > a then b else a)))) ρ1) P) : EvP K E (tCB rMax2 tas) ρ P :=
  ev_cb (h.mono fun os ρ1 ⟨a, b, e, q⟩ => by subst e; exact ⟨rfl, _, acb_max2, q⟩)
theorem ev_min2 (h : AvP K E tas ρ (fun os ρ1 => ∃ a b : Int, os = [.d (.int a), .d (.int b)] ∧ P (.ok (.d (.int (if b < a then b else a)))) ρ1) P) : EvP K E (tCB rMin2 tas) ρ P :=
  ev_cb (h.mono fun os ρ1 ⟨a, b, e, q⟩ => by subst e; exact ⟨rfl, _, acb_min2, q⟩)
end
end DL

/-! ### U. data that can be shown -/
namespace DL
open PySem L2 Evl PySem.Spec PyProof.Rows
/-- depth at most n, text at most c -/
def Shw (n c : Nat) (d : Dat) : Prop := Nice n d ∧ d.py.showable = true ∧ d.py.shown.length ≤ c
theorem shw_int {n : Nat} {i : Int} (h : i.natAbs < 10000000000) : Shw n 11 (.int i) := by
  refine ⟨nice_int i, ?_, ?_⟩
  · show decide (i.natAbs.log2 < 1920) = true
    refine decide_eq_true ?_
    by_cases z : i.natAbs = 0
    · rw [z]; decide
    · have : i.natAbs.log2 < 34 := (Nat.log2_lt z).mpr (Nat.lt_of_lt_of_le h (by decide))
      omega
  · show (Str.ofString (toString i)).length ≤ 11
    have := int_text_length_le10 (a := i) (k := 10) (by decide) (Nat.lt_of_lt_of_le h (by decide))
    rw [PySem.ofString_length]
    exact this
theorem shws {n c : Nat} : ∀ {xs : List Dat}, (∀ x ∈ xs, Shw n c x) → PyData.showableAll (pys xs) = true ∧ ((PyData.shownAll (pys xs)).map (·.length)).sum ≤ xs.length * c ∧ (PyData.shownAll (pys xs)).length = xs.length
  | [], _ => ⟨rfl, Nat.zero_le _, rfl⟩
  | x :: xs, h => by
    obtain ⟨_, a2, a3⟩ := h x List.mem_cons_self
    obtain ⟨b1, b2, b3⟩ := shws (xs := xs) fun y hy => h y (List.mem_cons_of_mem _ hy)
    refine ⟨?_, ?_, ?_⟩
    · show (x.py.showable && PyData.showableAll (pys xs)) = true
      rw [a2, b1]; rfl
    · show x.py.shown.length + ((PyData.shownAll (pys xs)).map (·.length)).sum ≤ (xs.length + 1) * c
      rw [Nat.succ_mul]
      omega
    · show (PyData.shownAll (pys xs)).length + 1 = xs.length + 1
      rw [b3]
theorem shw_lst {n c m : Nat} {xs : List Dat} (h : ∀ x ∈ xs, Shw n c x) (hm : xs.length * c + 2 * xs.length + 3 ≤ m) : Shw (n + 1) m (.lst xs) := by
  obtain ⟨a, b, e⟩ := shws h
  refine ⟨nice_lst fun x hx => (h x hx).1, a, ?_⟩
  show (listText (PyData.shownAll (pys xs))).length ≤ m
  have := listText_len_le (PyData.shownAll (pys xs))
  rw [e] at this
  omega
theorem shw_tup {n c m : Nat} {xs : List Dat} (h : ∀ x ∈ xs, Shw n c x) (hm : xs.length * c + 2 * xs.length + 3 ≤ m) : Shw (n + 1) m (.tup xs) := by
  obtain ⟨a, b, e⟩ := shws h
  refine ⟨nice_tup fun x hx => (h x hx).1, a, ?_⟩
  show (tupleText (PyData.shownAll (pys xs))).length ≤ m
  have := tupleText_len_le (PyData.shownAll (pys xs))
  rw [e] at this
  omega
theorem shw_map {α : Type} {n c : Nat} {f : α → Dat} {xs : List α} (h : ∀ x ∈ xs, Shw n c (f x)) : ∀ d ∈ xs.map f, Shw n c d := fun d hd => by
  obtain ⟨x, hx, rfl⟩ := List.mem_map.mp hd
  exact h x hx
theorem Shw.le {n c m : Nat} {d : Dat} (h : Shw n c d) (k : c ≤ m) : Shw n m d := ⟨h.1, h.2.1, Nat.le_trans h.2.2 k⟩
theorem Shw.up {n m c : Nat} {d : Dat} (h : Shw n c d) (k : n ≤ m) : Shw m c d := ⟨⟨h.1.1, h.1.2.1, Nat.le_trans h.1.2.2 k⟩, h.2⟩
theorem Shw.ok {n c : Nat} {d : Dat} (h : Shw n c d) (hn : n ≤ 64) (hc : c ≤ 16000000) : d.pure = true ∧ d.py.showable = true ∧ d.py.hasDict = false ∧ d.py.shown.length ≤ sizeLine ∧ d.py.depth ≤ 64 :=
  ⟨h.1.1, h.2.1, PyData.hasDict_of_canLay _ h.1.2.1, by have := h.2.2; rw [sizeLine_eq]; omega, by have := h.1.2.2; omega⟩
theorem shw_two {n c m : Nat} {x y : Dat} (h : Shw n c x) (k : Shw n c y) (hm : 2 * c + 7 ≤ m) : Shw (n + 1) m (.tup [x, y]) := shw_tup (fun z hz => by
  rcases List.mem_cons.mp hz with rfl | hz
  · exact h
  · rcases List.mem_cons.mp hz with rfl | hz
    · exact k
    · exact absurd hz List.not_mem_nil) (by show 2 * c + 2 * 2 + 3 ≤ m; omega)
section
variable {K : PySem.W.Frag} [HasTabs K] {E : XK} {ρ : Rh} {X : EPost} {te : TE} {i : Nat} {a : Addr}
/-- f(x, e), x an owned list that e may change -/
theorem av_box {P2 : List Ow → Rh → Prop} {xs : List Ow} (e : ρ[i]? = some (some (.l a xs))) (h : EvP K E te ρ (bnd (fun o ρ1 => ∃ xs1, ρ1[i]? = some (some (.l a xs1)) ∧ P2 [.l a xs1, o] (ρ1.set i (some (.m a)))) X)) : AvP K E (tCons (tVar i) (tCons te tNil)) ρ P2 X := by
  intro D H T σ Q s k xo
  obtain ⟨s0, _⟩ := s.getl e
  refine ⟨.ref a, s0, ?_⟩
  refine h D H T σ _ s (fun v o ρ1 D1 H1 q1 s1 => ?_) (xo.sub0 fun _ _ _ z => z)
  obtain ⟨xs1, e1, q⟩ := q1
  obtain ⟨_, s2⟩ := s1.move e1 rfl
  exact k [.ref a, v] [.l a xs1, o] _ D1 H1 q rfl s2
end
end DL

/-! ### V. what the top has left: defs and classes -/
namespace DL
open PySem L2 Evl PySem.Spec PyProof.Rows
section
variable {P : Program} {w : World} {K : PySem.W.Frag} [HasTabs K] {mg : Str → Option Value} {base h : Heap}
theorem fnG_of {x qual : Str} {st : Stmt} {f : Addr} {fd : FuncData} {N ps : List Str} {k : Nat} {R : Pr} (F : Fun K x qual st f fd) (S : FnScope N ps (defScope st)) (hl : ps.length ≤ N.length) (len : ∀ os Pp, R os Pp → os.length = ps.length)
    (noex : ∀ os Pp, R os Pp → R os (fun r us => (match r with | .ok _ => True | .ex _ _ => False) ∧ Pp r us))
    (hb : ∀ (f : Addr) (cdv : Value) (A : Around) (outer : List Env) (s : Shared) (H : Hp) (E : XK), A.guards = some [] → Room k (A.deeper (PyProof.Rows.envOfC qual (defScope st) s.heap.objs.size f cdv)) →
      ∃ t, PSs (cxOf CX0 P w K mg base N qual (defScope st) f cdv A outer s H E).nox (defBody st) t ∧ ∀ os Pp, R os Pp → SvP K E0 t (os.map some ++ List.replicate (N.length - os.length) none) (retS os Pp)) : FnG P w K mg base (k + 1) f fd ps (spOf K R) :=
  fnG_body F S (fun vs H Q E h => by obtain ⟨D, T, os, Pp, e, _, r, _⟩ := h; exact e.trans (len os Pp r)) fun cdv A outer s H vs Q E hg hr h => by
    obtain ⟨t, ht, hb⟩ := hb f cdv A outer s H E hg hr
    refine ⟨t, ht, ?_⟩
    obtain ⟨D, T, os, Pp, e, s1, r, k1, k2⟩ := h
    exact run_body (K := K) (E := E0) (R := R) (ps := ps) (by rw [e, len os Pp r]; exact hl) ⟨D, T, os, _, e, s1, noex os Pp r, fun v o us D' H' q => k1 v o us D' H' q.2, fun C fs us D' H' d q => q.1.elim⟩ hb
section
variable {x qual : Str} {st : Stmt} {ps : List Str} {f C T : Addr} {oc kV doc pm cdv ct u tc : Value} {od an td : Option Addr} {osl tsl : Array (Option Value)} {n : Nat} {dv : V}
/-- the binding of a def without defaults -/
abbrev BindN (x qual : Str) (st : Stmt) (ps : List Str) : Prop := ∀ (kV doc pm : Value) (an : Option Addr) (cdv ct : Value) (us : List Value), us.length = ps.length → bindArgs (PySem.W.fnOf x qual (defArgs st) (defBody st) (defScope st) .none kV doc pm an cdv ct) ⟨us, []⟩ = pure (ps.zip us)
abbrev BindK (x qual : Str) (st : Stmt) (ps : List Str) : Prop := ∀ (kV doc pm : Value) (an : Option Addr) (cdv ct : Value) (ws : List Value), ws.length = ps.length → bindArgs (PySem.W.fnOf x qual (defArgs st) (defBody st) (defScope st) .none kV doc pm an cdv ct) ⟨[], ps.reverse.zip ws⟩ = pure (ps.zip ws.reverse)
theorem dfn_mk (X : K.In h) (G : h.Ns mainGlobals mg) (a : PySem.W.nsIn K mainGlobals x = some (some (.ref f)))
    (l : K.lookup f = some ⟨oc, od, .func (PySem.W.fnOf x qual (defArgs st) (defBody st) (defScope st) .none kV doc pm an cdv ct), osl⟩) (c : PySem.W.codeIn K cdv qual = true) (k : PySem.W.keepIn K (.ref f) = true) (b : BindN x qual st ps) : Dfn K mg x qual st ps :=
  ⟨f, _, PySem.W.mg_of X G a, k, (fun_mk l c k).binds b, fun_mk l c k⟩
theorem dfnK_mk (X : K.In h) (G : h.Ns mainGlobals mg) (a : PySem.W.nsIn K mainGlobals x = some (some (.ref f)))
    (l : K.lookup f = some ⟨oc, od, .func (PySem.W.fnOf x qual (defArgs st) (defBody st) (defScope st) .none kV doc pm an cdv ct), osl⟩) (c : PySem.W.codeIn K cdv qual = true) (k : PySem.W.keepIn K (.ref f) = true) (b : BindN x qual st ps) (bk : BindK x qual st ps) : DfnK K mg x qual st ps :=
  ⟨f, _, PySem.W.mg_of X G a, k, (fun_mk l c k).binds b, ⟨fun s us ws _ l1 l2 => by
    cases List.eq_nil_of_length_eq_zero l1
    exact .of_eq (bk kV doc pm an cdv ct ws (by rw [l2, List.length_reverse])), fun _ r2 => r2.reverse⟩, fun_mk l c k⟩
theorem funD_of (l : K.lookup f = some ⟨oc, od, .func (PySem.W.fnOf x qual (defArgs st) (defBody st) (defScope st) (.ref T) kV doc pm an cdv ct), osl⟩) (lt : K.lookup T = some ⟨tc, td, .seq #[u] n, tsl⟩) (r : RelV dv u) (c : PySem.W.codeIn K cdv qual = true) (k : PySem.W.keepIn K (.ref f) = true) :
    FunD K x qual (defArgs st) (defBody st) (defScope st) [dv] [] f (PySem.W.fnOf x qual (defArgs st) (defBody st) (defScope st) (.ref T) kV doc pm an cdv ct) :=
  ⟨⟨oc, od, .ref T, kV, doc, pm, an, cdv, ct, osl, rfl, l, c, .inr ⟨by simp, T, _, [u], n, rfl, lt, rfl, .cons r .nil⟩, .inl rfl⟩, k⟩
abbrev BindD (x qual : Str) (st : Stmt) (ps : List Str) : Prop := ∀ (T : Addr) (kV doc pm : Value) (an : Option Addr) (cdv ct : Value) (us its : List Value), us.length = ps.length → its.length = 1 →
  ∃ k, bindArgs (PySem.W.fnOf x qual (defArgs st) (defBody st) (defScope st) (.ref T) kV doc pm an cdv ct) ⟨us, []⟩ = seqItems? (.ref T) >>= k ∧ k (some its.toArray) = pure (ps.zip us)
abbrev BindF (x qual : Str) (st : Stmt) (ps : List Str) : Prop := ∀ (T : Addr) (kV doc pm : Value) (an : Option Addr) (cdv ct : Value) (us its : List Value), us.length + 1 = ps.length → its.length = 1 →
  ∃ k, bindArgs (PySem.W.fnOf x qual (defArgs st) (defBody st) (defScope st) (.ref T) kV doc pm an cdv ct) ⟨us, []⟩ = seqItems? (.ref T) >>= k ∧ k (some its.toArray) = pure (ps.zip (us ++ its))
abbrev BindDK (x qual : Str) (st : Stmt) (ps : List Str) : Prop := ∀ (T : Addr) (kV doc pm : Value) (an : Option Addr) (cdv ct : Value) (its ws : List Value), its.length = 1 → ws.length = ps.length →
  ∃ k, bindArgs (PySem.W.fnOf x qual (defArgs st) (defBody st) (defScope st) (.ref T) kV doc pm an cdv ct) ⟨[], ps.reverse.zip ws⟩ = seqItems? (.ref T) >>= k ∧ k (some its.toArray) = pure (ps.zip ws.reverse)
theorem FunD.all {fd : FuncData} (F : FunD K x qual (defArgs st) (defBody st) (defScope st) [dv] [] f fd) (b : BindD x qual st ps) : Binds K fd ps [] := by
  obtain ⟨ds, r, z⟩ := L2.FunD.binds1 (ps := ps) F ps.length 1 (by simp) (by simp) fun T kV doc pm an cdv ct us its l1 l2 => by
    obtain ⟨k, e1, e2⟩ := b T kV doc pm an cdv ct us its l1 l2
    refine ⟨k, e1, ?_⟩
    rw [e2, List.drop_of_length_le (by rw [l2]; exact Nat.le_refl 1), List.append_nil]
  cases r
  exact z
theorem dfnD_mk (X : K.In h) (G : h.Ns mainGlobals mg) (a : PySem.W.nsIn K mainGlobals x = some (some (.ref f)))
    (l : K.lookup f = some ⟨oc, od, .func (PySem.W.fnOf x qual (defArgs st) (defBody st) (defScope st) (.ref T) kV doc pm an cdv ct), osl⟩) (lt : K.lookup T = some ⟨tc, td, .seq #[u] n, tsl⟩) (r : RelV dv u) (c : PySem.W.codeIn K cdv qual = true) (k : PySem.W.keepIn K (.ref f) = true)
    (hp : 1 ≤ ps.length) (b : BindD x qual st ps) (bf : BindF x qual st ps) (bk : BindDK x qual st ps) : DfnD K mg x qual st ps dv := by
  have F := funD_of l lt r c k
  refine ⟨f, _, PySem.W.mg_of X G a, k, F, FunD.all F b, ?_, ?_⟩
  · obtain ⟨ds, r, z⟩ := L2.FunD.binds1 (ps := ps) F (ps.length - 1) 0 (by simp) (by simp; omega) fun T kV doc pm an cdv ct us its l1 l2 => bf T kV doc pm an cdv ct us its (by omega) l2
    obtain ⟨v, rfl, _⟩ := r.one
    exact ⟨v, r, z⟩
  · obtain ⟨its, z⟩ := L2.FunD.kbindsD (ps := ps) F 0 ps.reverse (fun _ _ ws => ws.reverse) (by simp) (fun _ _ r => r.reverse) fun T kV doc pm an cdv ct us its ws l1 l2 l3 => by
      cases List.eq_nil_of_length_eq_zero l1
      exact bk T kV doc pm an cdv ct its ws l2 (by rw [l3, List.length_reverse])
    exact z
theorem const_mk {v : Value} {n : Int} (X : K.In h) (G : h.Ns mainGlobals mg) (z : PySem.W.nsIn K mainGlobals x = some (some v)) (e : ∃ t, v = .int n t) : ∃ t, mg x = some (.int n t) := by
  obtain ⟨t, rfl⟩ := e
  exact ⟨t, PySem.W.mg_of X G z⟩
theorem no_attr {y : Str} (z : PySem.W.findIn K (.ref C) y = some none) : NoAttr K C y := z
theorem cfn_mk (X : K.In h) (G : h.Ns mainGlobals mg) (a : PySem.W.nsIn K mainGlobals x = some (some (.ref C))) (m : Mk K C f)
    (l : K.lookup f = some ⟨oc, od, .func (PySem.W.fnOf "__init__" qual (defArgs st) (defBody st) (defScope st) .none kV doc pm an cdv ct), osl⟩) (c : PySem.W.codeIn K cdv qual = true) (k : PySem.W.keepIn K (.ref f) = true) (b : BindN "__init__" qual st ps) : Cfn K mg x qual st ps C :=
  ⟨f, _, PySem.W.mg_of X G a, m, (fun_mk l c k).binds b, fun_mk l c k⟩
theorem cfnD_mk (X : K.In h) (G : h.Ns mainGlobals mg) (a : PySem.W.nsIn K mainGlobals x = some (some (.ref C))) (m : Mk K C f)
    (l : K.lookup f = some ⟨oc, od, .func (PySem.W.fnOf "__init__" qual (defArgs st) (defBody st) (defScope st) (.ref T) kV doc pm an cdv ct), osl⟩) (lt : K.lookup T = some ⟨tc, td, .seq #[u] n, tsl⟩) (r : RelV dv u) (c : PySem.W.codeIn K cdv qual = true) (k : PySem.W.keepIn K (.ref f) = true)
    (b : BindD "__init__" qual st ps) : CfnD K mg x qual st ps C dv := by
  have F := funD_of l lt r c k
  exact ⟨f, _, PySem.W.mg_of X G a, m, F, FunD.all F b⟩
end
end
end DL

/-! ### X. lambdas: the tables of code objects change, all else stays -/
namespace DL
open PySem L2 Evl PySem.Spec PyProof.Rows
/-- what is plain stays -/
def ExP (D D' : Hp) : Prop := ∀ b u, D b = some u → plainO u = true → D' b = some u
theorem sq_plain {K : PySem.W.Frag} {D D' : Hp} {a : Addr} {xs : List V} (e : ExP D D') (h : SqL K D a xs) : SqL K D' a xs := by
  rcases h with (h | ⟨o, h⟩) | h
  · exact .inl (.inl (e _ _ h rfl))
  · exact .inl (.inr ⟨o, e _ _ h rfl⟩)
  · exact .inr h
mutual
theorem Den.plain {K : PySem.W.Frag} {D D' : Hp} (e : ExP D D') : ∀ {v : V} {d : Dat}, Den K D v d → Den K D' v d
  | _, _, .non => .non
  | _, _, .bl b => .bl b
  | _, _, .int i => .int i
  | _, _, .str x => .str x
  | _, _, .lst h r => .lst (e _ _ h rfl) (DenAll.plain e r)
  | _, _, .tup h r => .tup (e _ _ h rfl) (DenAll.plain e r)
  | _, _, .obj h r => .obj (e _ _ h rfl) (DenF.plain e r)
  | _, _, .ty n => .ty n
  | _, _, .scr h => .scr (sq_plain e h)
theorem DenAll.plain {K : PySem.W.Frag} {D D' : Hp} (e : ExP D D') : ∀ {v : List V} {d : List Dat}, DenAll K D v d → DenAll K D' v d
  | _, _, .nil => .nil
  | _, _, .cons h r => .cons (Den.plain e h) (DenAll.plain e r)
theorem DenF.plain {K : PySem.W.Frag} {D D' : Hp} (e : ExP D D') : ∀ {v : List (Str × V)} {d : List (Str × Dat)}, DenF K D v d → DenF K D' v d
  | _, _, .nil => .nil
  | _, _, .cons h r => .cons (Den.plain e h) (DenF.plain e r)
end
theorem DenK.plain {K : PySem.W.Frag} {D D' : Hp} (e : ExP D D') : ∀ {kvs : List (List Key × V)} {kds : List (List Key × Dat)}, DenK K D kvs kds → DenK K D' kvs kds
  | _, _, .nil => .nil
  | _, _, .cons r t => .cons (r.plain e) (DenK.plain e t)
mutual
theorem DenO.plain {K : PySem.W.Frag} {D D' H H' : Hp} (e : ExP D D') (k : ExP H H') : ∀ {v : V} {o : Ow}, DenO K D H v o → DenO K D' H' v o
  | _, _, .d h => .d (h.plain e)
  | _, _, .m a => .m a
  | _, _, .l h r => .l (k _ _ h rfl) (DenOs.plain e k r)
  | _, _, .t h r => .t (k _ _ h rfl) (r.plain e)
  | _, _, .z h r => .z (k _ _ h rfl) (r.plain e)
  | _, _, .o h r => .o (k _ _ h rfl) (r.plain e)
  | _, _, .q h p => .q (e _ _ h p) p
theorem DenOs.plain {K : PySem.W.Frag} {D D' H H' : Hp} (e : ExP D D') (k : ExP H H') : ∀ {v : List V} {o : List Ow}, DenOs K D H v o → DenOs K D' H' v o
  | _, _, .nil => .nil
  | _, _, .cons h r => .cons (DenO.plain e k h) (DenOs.plain e k r)
end
theorem Slots.plain {K : PySem.W.Frag} {D D' H H' : Hp} (e : ExP D D') (k : ExP H H') : ∀ {σ : L2.St} {ρ : Rh}, Slots K D H σ ρ → Slots K D' H' σ ρ
  | _, _, .nil => .nil
  | _, _, .skip r => .skip (Slots.plain e k r)
  | _, _, .cons h r => .cons (h.plain e k) (Slots.plain e k r)
/-- owned addresses hold plain things -/
theorem DenO.holds {K : PySem.W.Frag} {D H : Hp} {v : V} {o : Ow} (h : DenO K D H v o) : ∀ a ∈ o.fp, ∃ u, H a = some u ∧ plainO u = true := by
  have key : (∀ {v : V} {o : Ow}, DenO K D H v o → ∀ a ∈ o.fp, ∃ u, H a = some u ∧ plainO u = true) := by
    intro v o h
    exact DenO.rec (motive_1 := fun v o _ => ∀ a ∈ o.fp, ∃ u, H a = some u ∧ plainO u = true) (motive_2 := fun v os _ => ∀ a ∈ fps os, ∃ u, H a = some u ∧ plainO u = true)
      (fun _ a ha => by unfold Ow.fp at ha; exact absurd ha (by simp)) (fun _ a ha => by unfold Ow.fp at ha; exact absurd ha (by simp))
      (fun h _ ih a ha => by
        unfold Ow.fp at ha
        rcases List.mem_cons.mp ha with e | e
        · exact ⟨_, by rw [e]; exact h, rfl⟩
        · exact ih a e)
      (fun h _ a ha => by unfold Ow.fp at ha; rw [List.mem_singleton] at ha; exact ⟨_, by rw [ha]; exact h, rfl⟩)
      (fun h _ a ha => by unfold Ow.fp at ha; rw [List.mem_singleton] at ha; exact ⟨_, by rw [ha]; exact h, rfl⟩)
      (fun h _ a ha => by unfold Ow.fp at ha; rw [List.mem_singleton] at ha; exact ⟨_, by rw [ha]; exact h, rfl⟩)
      (fun _ _ a ha => by unfold Ow.fp at ha; exact absurd ha (by simp))
      (fun a ha => by unfold fps at ha; exact absurd ha (by simp))
      (fun _ _ ih1 ih2 a ha => by
        unfold fps at ha
        rcases List.mem_append.mp ha with e | e
        · exact ih1 a e
        · exact ih2 a e) h
  exact key h
/-- what stands plain in D, and the tables and code objects of H -/
def withTabs (D H : Hp) : Hp := fun b => match H b with
  | some (.tbl ps) => some (.tbl ps)
  | some (.ext φ) => some (.ext φ)
  | _ => match D b with
    | some u => if plainO u = true then some u else none
    | none => none
theorem withTabs_of {D H : Hp} {b : Addr} {u : HO} (e : withTabs D H b = some u) : (H b = some u ∧ plainO u = false) ∨ (D b = some u ∧ plainO u = true) := by
  unfold withTabs at e
  split at e
  · rename_i ps h; cases e; exact .inl ⟨h, rfl⟩
  · rename_i φ h; cases e; exact .inl ⟨h, rfl⟩
  · split at e
    · rename_i v h
      split at e
      · rename_i hp; cases e; exact .inr ⟨h, hp⟩
      · exact nomatch e
    · exact nomatch e
theorem withTabs_odd {D H : Hp} {b : Addr} {u : HO} (h : H b = some u) (k : plainO u = false) : withTabs D H b = some u := by
  unfold withTabs
  rw [h]
  cases u <;> first | rfl | exact absurd (show true = false from k) (by decide)
theorem withTabs_plain {D H : Hp} {b : Addr} {u : HO} (hd : D b = some u) (hh : H b = some u) (k : plainO u = true) : withTabs D H b = some u := by
  unfold withTabs
  rw [hh, hd]
  cases u <;> first | exact absurd (show false = true from k) (by decide) | exact if_pos k
theorem extN_plain {H H1 : Hp} (n : LamX.ExtN H H1) : ExP H H1 := fun b u h k => n b u h fun ps e => by rw [e] at k; exact nomatch k
section
variable {K : PySem.W.Frag} [HasTabs K] {D H H1 : Hp} {T : Tm} {σ : L2.St} {ρ : Rh}
/-- the tables are written on: the state is told over the new heap -/
theorem Sd.tabs (h : Sd K D H T σ ρ) (n : LamX.ExtN H H1) (t : LamX.Tabs (HasTabs.tt K) H1) : ∃ D1, Sd K D1 H1 T σ ρ := by
  have eP := extN_plain n
  have eD : ExP D (withTabs D H1) := fun b u hd k => withTabs_plain hd (eP b u (h.ex b u hd) k) k
  refine ⟨withTabs D H1, fun b u e => ?_, fun p hp => (h.tm p hp).plain eD eP, h.sl.plain eD eP, h.nd, fun a ha => ?_, fun p hp => ?_⟩
  · rcases withTabs_of e with ⟨h1, _⟩ | ⟨h1, k⟩
    · exact h1
    · exact eP b u (h.ex b u h1) k
  · have hu : ∃ u, H a = some u ∧ plainO u = true := by
      rcases List.mem_append.mp ha with z | z
      · have key : ∀ (T : Tm), (∀ p ∈ T, DenO K D H p.1 p.2) → a ∈ fpT T → ∃ u, H a = some u ∧ plainO u = true := by
          intro T
          induction T with
          | nil => intro _ z; exact absurd (show a ∈ ([] : List Addr) from z) (by simp)
          | cons x T ih =>
            intro q z
            rcases List.mem_append.mp z with z | z
            · exact (q x List.mem_cons_self).holds a z
            · exact ih (fun p hp => q p (List.mem_cons_of_mem _ hp)) z
        exact key T h.tm z
      · have key : ∀ {σ : L2.St} {ρ : Rh}, Slots K D H σ ρ → a ∈ fpR ρ → ∃ u, H a = some u ∧ plainO u = true := by
          intro σ ρ s
          induction s with
          | nil => intro z; exact absurd (show a ∈ ([] : List Addr) from z) (by simp)
          | skip r ih => intro z; exact ih z
          | cons r s ih =>
            intro z
            rcases List.mem_append.mp z with z | z
            · exact r.holds a z
            · exact ih z
        exact key h.sl z
    obtain ⟨u, hu, k⟩ := hu
    cases e : withTabs D H1 a with
    | none => rfl
    | some u2 =>
      rcases withTabs_of e with ⟨h1, k2⟩ | ⟨h1, _⟩
      · rw [eP a u hu k] at h1
        cases h1
        rw [k] at k2
        exact nomatch k2
      · rw [h.out a ha] at h1
        exact nomatch h1
  · obtain ⟨ps, h1, h2, h3⟩ := t p hp
    refine ⟨ps, withTabs_odd h1 rfl, h2, fun pos cv hc => ?_⟩
    obtain ⟨c, e1, e2⟩ := h3 pos cv hc
    exact ⟨c, e1, withTabs_odd e2 rfl⟩
end
end DL

/-! ### Y. defs that raise -/
namespace DL
open PySem L2 Evl PySem.Spec PyProof.Rows
section
variable (P : Program) (w : World) (K : PySem.W.Frag) [HasTabs K] (mg : Str → Option Value) (base : Heap)
/-- a def that may raise, its promise -/
structure OkX (k : Nat) (x : Str) (ps : List Str) (R : Pr) : Prop where
  ex : ∃ (f : Addr) (fd : FuncData), mg x = some (.ref f) ∧ PySem.W.keepIn K (.ref f) = true ∧ Binds K fd ps [] ∧ FnOk P w K mg base (L2.CX P w) k f fd ps (spOf K R)
end
/-- an error's own __init__: each argument into its field -/
def spI (K : PySem.W.Frag) (fs : List Str) : Sp := fun vs H Q _ => ∃ (a C : Addr) (ws : List V), vs = .ref a :: ws ∧ ws.length = fs.length ∧ OexC K C ∧ (∀ f ∈ fs, PySem.W.findIn K (.ref C) f = some none) ∧ H a = some (exo a C none) ∧
  ∀ d H2, H2 a = some (exo a C (some d)) → H2 d = some (exd d (fs.zip ws).reverse) → H d = none → d ≠ a → (∀ b, b ≠ a → b ≠ d → H2 b = H b) → Q .non H2
structure ErrC (P : Program) (w : World) (K : PySem.W.Frag) (mg : Str → Option Value) (base : Heap) (x : Str) (C : Addr) (fs : List Str) : Prop where
  mgx : mg x = some (.ref C)
  ox : OexC K C
  no : ∀ f ∈ fs, PySem.W.findIn K (.ref C) f = some none
  ini : ∃ (fI : Addr) (fd : FuncData) (ps : List Str), PySem.W.findIn K (.ref C) "__init__" = some (some (.ref fI)) ∧ PySem.W.typeIn K (.ref fI) = some (.type "function") ∧ Binds K fd ps [] ∧ FnOk P w K mg base CX0 1 fI fd ps (spI K fs)
  few : fs.length ≤ 900
def tRaise (K : PySem.W.Frag) (C : Addr) (fs : List Str) (ta : TA) (E : XK) : TS := fun _ σ H => tMkO C (spI K fs) [] ta σ H E
section
variable {P : Program} {w : World} {K : PySem.W.Frag} [HasTabs K] {mg : Str → Option Value} {base : Heap}
theorem Dfn.okX {x qual : Str} {st : Stmt} {N ps : List Str} {k : Nat} {R : Pr} (F : Dfn K mg x qual st ps) (S : FnScope N ps (defScope st)) (hl : ps.length ≤ N.length) (len : ∀ os Pp, R os Pp → os.length = ps.length)
    (hb : ∀ (f : Addr) (cdv : Value) (A : Around) (outer : List Env) (s : Shared) (H : Hp) (E : XK), Room k (A.deeper (PyProof.Rows.envOfC qual (defScope st) s.heap.objs.size f cdv)) →
      ∃ t, PSs (cxOf (L2.CX P w) P w K mg base N qual (defScope st) f cdv A outer s H E) (defBody st) t ∧ ∀ os Pp, R os Pp → SvP K E t (os.map some ++ List.replicate (N.length - os.length) none) (retS os Pp)) : OkX P w K mg base (k + 1) x ps R := by
  obtain ⟨f, fd, h1, h2, h3, h4⟩ := F.ex
  exact ⟨f, fd, h1, h2, h3, def_okX h4 S hl len (hb f)⟩
end
section
variable {X : Cx} {k : Nat} {x : Str} {ps fs : List Str} {R : Pr} {p pos pos2 : Pos} {e : Expr} {es : List Expr} {t : TA} {E : XK} {C : Addr}
/-- a call of a def that raises nothing, whatever stands around -/
theorem pe_fnE {P : Program} {w : World} {K : PySem.W.Frag} [HasTabs K] {mg : Str → Option Value} {base : Heap} (O : Ok P w K mg base k x ps R) (hX : X.prog = P ∧ X.w = w ∧ X.K = K ∧ X.mg = mg ∧ X.base = base) (hr : Room k X.A) (hg : Gl X x) (ha : PA X (e :: es) t) (hdb : (x == ("__debug__" : Str)) = false := by decide)
    (he : starEach (e :: es) X.env = (false, eval e X.env) :: starEach es X.env := by rfl) (hpl : (backTo pos (starEach es X.env)).any (·.1) = false := by rfl) : PE X (.Call (.Name x p) (e :: es) [] pos) (tCall (spOf K R) [] E t) := by
  obtain ⟨f, fd, hm, hk, hb, F⟩ := O.ex
  obtain ⟨rfl, rfl, rfl, rfl, rfl⟩ := hX
  exact pe_call F hr hg hm hk hb .nil (fun _ _ _ _ _ _ _ h => h.elim) ha hdb he hpl
/-- a call of a def that may raise, where that goes out -/
theorem pe_fnX {P : Program} {w : World} {K : PySem.W.Frag} [HasTabs K] {mg : Str → Option Value} {base : Heap} (O : OkX P w K mg base k x ps R) (tk : Takes X (fun cls d _ H => E cls d H)) (hX : X.prog = P ∧ X.w = w ∧ X.K = K ∧ X.mg = mg ∧ X.base = base) (hr : Room k X.A) (hg : Gl X x) (ha : PA X (e :: es) t) (hdb : (x == ("__debug__" : Str)) = false := by decide)
    (he : starEach (e :: es) X.env = (false, eval e X.env) :: starEach es X.env := by rfl) (hpl : (backTo pos (starEach es X.env)).any (·.1) = false := by rfl) : PE X (.Call (.Name x p) (e :: es) [] pos) (tCall (spOf K R) [] E t) := by
  obtain ⟨f, fd, hm, hk, hb, F⟩ := O.ex
  obtain ⟨rfl, rfl, rfl, rfl, rfl⟩ := hX
  exact pe_call F hr hg hm hk hb .nil (fun pins σ H s e s' I c => passAt tk σ pins H s e s' I c) ha hdb he hpl
/-- raise x(e, ..) -/
theorem ps_raiseE {P : Program} {w : World} {K : PySem.W.Frag} {mg : Str → Option Value} {base : Heap} (O : ErrC P w K mg base x C fs) (tk : Takes X (fun cls d _ H => E cls d H)) (hc : X.calm = true) (hX : X.prog = P ∧ X.w = w ∧ X.K = K ∧ X.mg = mg ∧ X.base = base) (hr : Room 2 X.A) (hg : Gl X x) (ha : PA X (e :: es) t) (hdb : (x == ("__debug__" : Str)) = false := by decide)
    (he : starEach (e :: es) X.env = (false, eval e X.env) :: starEach es X.env := by rfl) (hpl : (backTo pos (starEach es X.env)).any (·.1) = false := by rfl) : PS X (.Raise (some (.Call (.Name x p) (e :: es) [] pos)) none pos2) (tRaise K C fs t E) := by
  obtain ⟨fI, fd, qs, h1, h2, h3, F⟩ := O.ini
  obtain ⟨rfl, rfl, rfl, rfl, rfl⟩ := hX
  exact ps_raise hc tk (pmk_oex O.ox h1 h2 F hr h3 .nil (fun _ _ _ _ _ _ _ h => h.elim) hg O.mgx ha hdb he hpl)
end
section
variable {K : PySem.W.Frag} [HasTabs K] {E : XK} {D H : Hp} {ρ : Rh} {S : SPost} {tas : TA} {C : Addr}
theorem denF_zip : ∀ {fs : List Str} {vs : List V} {ds : List Dat}, DenAll K D vs ds → DenF K D (fs.zip vs) (fs.zip ds)
  | [], _, _, _ => .nil
  | _ :: _, _, _, .nil => .nil
  | f :: fs, _, _, .cons r t => .cons r (denF_zip t)
theorem DenF.app : ∀ {a b : List (Str × V)} {c d : List (Str × Dat)}, DenF K D a c → DenF K D b d → DenF K D (a ++ b) (c ++ d)
  | _, _, _, _, .nil, s => s
  | _, _, _, _, .cons r t, s => .cons r (DenF.app t s)
theorem DenF.rev : ∀ {a : List (Str × V)} {c : List (Str × Dat)}, DenF K D a c → DenF K D a.reverse c.reverse
  | _, _, .nil => .nil
  | _, _, .cons r t => by
    rw [List.reverse_cons, List.reverse_cons]
    exact DenF.app (DenF.rev t) (.cons r .nil)
/-- raise: the arguments are the error's fields, the last one first -/
theorem sv_raise {fs : List Str} (ox : OexC K C) (no : ∀ f ∈ fs, PySem.W.findIn K (.ref C) f = some none) (few : fs.length ≤ 900) (h : AvP K E tas ρ (fun os ρ1 => ∃ ds, os = ds.map Ow.d ∧ ds.length = fs.length ∧ S (.xc C (fs.zip ds).reverse ρ1)) (bndS (fun _ _ => True) S)) : SvP K E (tRaise K C fs tas E) ρ S := by
  intro D H T σ En s w
  refine h D H T σ _ s (fun vs os ρ1 D1 H1 q1 e1 s1 => ?_) (.ofWd w fun _ _ _ z => z)
  obtain ⟨ds, rfl, hl, q⟩ := q1
  have hlv : vs.length = fs.length := by rw [e1, List.length_map, hl]
  refine ⟨by omega, fun a ha => ⟨a, C, vs, by rw [List.append_nil], hlv, ox, no, upd_same, fun d H2 h1 h2 h3 h4 h5 => ?_⟩⟩
  have hd1 : H1 d = none := by rw [upd_ne h4] at h3; exact h3
  refine ⟨rfl, d, _, h1, h2, hd1, ?_⟩
  have dn : DenAll K D1 vs ds := by
    have key : ∀ (vs : List V) (ds : List Dat), vs.length = ds.length → (∀ p ∈ vs.zip (ds.map Ow.d), DenO K D1 H1 p.1 p.2) → DenAll K D1 vs ds := by
      intro vs
      induction vs with
      | nil => intro ds hl _; cases ds with | nil => exact .nil | cons _ _ => simp at hl
      | cons v vs ih =>
        intro ds hl hp
        cases ds with
        | nil => simp at hl
        | cons d ds =>
          have h1 := hp (v, .d d) List.mem_cons_self
          cases h1 with
          | d h1 => exact .cons h1 (ih ds (by simpa using hl) fun p hq => hp p (List.mem_cons_of_mem _ hq))
    exact key vs ds (by rw [hlv, hl]) fun p hp => s1.tm p (List.mem_append_left _ hp)
  have g : Sd K D1 (upd (del H2 a) d (.xd (fs.zip vs).reverse)) T σ ρ1 := (s1.popN).keepH fun b u hb => by
    have n1 : b ≠ a := fun z => by rw [z, ha] at hb; cases hb
    have n2 : b ≠ d := fun z => by rw [z, hd1] at hb; cases hb
    rw [upd_ne n2, del_ne n1, h5 b n1 n2, upd_ne n1]
    exact hb
  exact w.xc C _ ρ1 D1 _ σ d q g ⟨_, upd_same, (denF_zip dn).rev⟩
end
end DL

/-! ### Z. several clauses that name the error; lambdas that are heard -/
namespace DL
open PySem L2 Evl PySem.Spec PyProof.Rows
/-- the ends of a suite in which slot i names the error -/
def offI (i : Nat) (D : Ends) : Ends := ⟨fun σ H => D.nx (σ.set i none) H, D.rt, fun σ H => D.bk (σ.set i none) H, fun σ H => D.ct (σ.set i none) H⟩
def wAll (K : PySem.W.Frag) (Wo : WX) (i : Nat) (D : Ends) : List (Value × (Addr → Value → Option Addr → TS)) → WX
  | [] => Wo
  | q :: r => fun cls d σ H => ∃ y, PySem.W.exmOne K cls q.1 = some y ∧ (y = true → ∀ a, H a = none → q.2 a cls d (offI i D) (σ.set i (some (.ref a))) H) ∧ (y = false → wAll K Wo i D r cls d σ H)
inductive Hands' (X : Cx) (n : Str) : List ExceptHandler → List (Value × (Addr → Value → Option Addr → TS)) → Prop
  | nil : Hands' X n [] []
  | cons {x : Str} {c : Value} {ts : Addr → Value → Option Addr → TS} {st : Stmt} {sts : List Stmt} {p1 p2 : Pos} {hs : List ExceptHandler} {l : List (Value × (Addr → Value → Option Addr → TS))} (nm : Names X x c)
      (su : ∀ (a : Addr) (oe : Obj) (cls : Value) (d : Option Addr) (pn : List (Addr × Obj)), Zc cls d oe → (∃ vs, oe.data = .fields vs) → PSs (X.suite a ((a, oe) :: pn)) (st :: sts) (ts a cls d)) (r : Hands' X n hs l) :
      Hands' X n (.ExceptHandler (some (.Name x p1)) (some n) (st :: sts) p2 :: hs) ((c, ts) :: l)
section
variable {X : Cx} {n : Str} {i : Nat} {body : List Stmt} {k0 : ExceptHandler} {ks : List ExceptHandler} {l : List (Value × (Addr → Value → Option Addr → TS))} {pos : Pos} {tb : WX → TS} {Wo : WX}
theorem ps_tryAll (stk : X.stack = X.env :: X.outer) (frm : X.env.frame = some X.env.locals) (nd : X.N.Nodup) (hn : X.N[i]? = some n) (loc : X.env.kindOf n = some .local) (tk : Takes X Wo)
    (inner : ∀ (W : WX) (pn : List (Addr × Obj)) (xe : Value → Shared → Prop), Takes (X.tr pn xe) W → PassesOwn (model X.prog X.w) X.A X.env xe → PSs (X.tr pn xe) body (tb W))
    (hh : Hands' X n (k0 :: ks) l) : PS X (.Try body (k0 :: ks) [] [] pos) (fun D σ H => tb (wAll X.K Wo i D l) D σ H) := by
  refine ⟨fun pins s0 σ0 H0 D I0 q0 => ?_⟩
  have okX := I0.ok
  have frames : X.A.frames = some (X.env :: X.outer) := by rw [okX.frames, stk]
  have here : Loc X.env.scope n := .inl loc
  refine wpAny_Try_except ?_
  have run := (inner (wAll X.K Wo i D l) (X.pn ++ pins) (fun er t1 => wpAny (model X.prog X.w) X.A (noteFrame er X.env) (fun _ t2 => wpAny (model X.prog X.w) X.A (setFlight er none) (fun _ t3 =>
    wpAny (model X.prog X.w) X.A (handleBy er X.env (k0 :: ks)) (SP X pins D) X.xe t3) X.xe t2) X.xe t1) (fun u t xx => ?_) PassesOwn.looking).run [] s0 σ0 H0 D (I0.toTry _) q0
  · refine wpAny_mono run (fun fl t1 z => ?_) fun _ _ z => z
    cases fl with
    | next => obtain ⟨σ2, H2, J2, q2⟩ := z; exact wpAny_execs_nil ⟨σ2, H2, J2.ofTry okX, q2⟩
    | brk => obtain ⟨σ2, H2, J2, q2⟩ := z; exact ⟨σ2, H2, J2.ofTry okX, q2⟩
    | cont => obtain ⟨σ2, H2, J2, q2⟩ := z; exact ⟨σ2, H2, J2.ofTry okX, q2⟩
    | ret u => obtain ⟨v2, σ2, H2, J2, r2, q2⟩ := z; exact ⟨v2, σ2, H2, J2.ofTry okX, r2, q2⟩
  · obtain ⟨a, B, sB, pB, σ1, H1, cls, d, rfl, J0, noB, up0, sk, nA, osq, agq, want⟩ := xx
    have J1 : Inv X pins σ1 H1 sB := J0.ofTry okX
    have sk1 : Sky B (X.env :: X.outer) a (Zc cls d) X.env.locals t.heap := by rw [← stk]; exact sk
    show wpAny _ X.A (noteFrame (.ref a) X.env) _ _ _
    refine Sky.land Zc.steady frames frm sk1 fun hp3 fl3 up3 => ?_
    have J3 : Inv X pins σ1 H1 { t with heap := hp3 } := J1.landed noB fl3.1 (up0.trans up3) osq agq
    obtain ⟨o3, v3, g3, z3, d3⟩ := fl3.there
    have offF : a ∉ frs (X.env :: X.outer) := fun hm => by
      obtain ⟨_, o', e', no'⟩ := fl3.2.2.1.mem hm
      rw [g3] at e'
      cases e'
      exact no' _ d3
    have offL : a ≠ X.env.locals := fun z => offF (List.mem_filterMap.mpr ⟨X.env, List.mem_cons_self, by rw [frm, z]⟩)
    have offS : a ∉ X.fs := fun hm => by
      obtain ⟨en, hen, q⟩ := List.mem_filterMap.mp hm
      exact offF (List.mem_filterMap.mpr ⟨en, List.mem_cons_of_mem _ hen, q⟩)
    have S3 := J3.suite g3 d3 nA offL offS
    have go : ∀ {hs' : List ExceptHandler} {l' : List (Value × (Addr → Value → Option Addr → TS))}, Hands' X n hs' l' → wAll X.K Wo i D l' cls d σ1 H1 →
        wpAny (model X.prog X.w) X.A (handleBy (.ref a) X.env hs') (SP X pins D) X.xe { t with heap := hp3 } := by
      intro hs' l' hk
      induction hk with
      | nil =>
        intro w
        refine wpAny_handleBy_nil ?_
        obtain ⟨_, _, _, oe, vs, T, oT, ts', ge, gz, gd, gf, gr⟩ := id fl3
        unfold PySem.passOn
        refine wpAny_bind (wpAny_field ge gd gf ?_)
        rw [if_neg (by simp : ¬ ((Value.ref T == Value.none) = true))]
        have out : wpAny (model X.prog X.w) X.A (setFlight (.ref a) X.env.frame) (fun _ t4 => wpAny (model X.prog X.w) X.A (throw (.ref a) : Sem Flow) (SP X pins D) X.xe t4) X.xe { t with heap := hp3 } := by
          rw [frm]
          refine HandSPX.setFlight_upZ fl3 fun f4 r4 up4 => wpAny_throw (tk _ _ ?_)
          exact ⟨a, B, sB, pins, σ1, H1, cls, d, rfl, J1, noB, (up0.trans up3).trans up4, .inr (.inr (by rw [stk]; exact r4)), nA, osq, agq, w⟩
        first | exact wpAny_bind (wpAny_pure (wpAny_bind out)) | exact wpAny_bind out
      | @cons x c ts st sts p1 p2 hs2 l2 nm su r ih =>
        intro w
        obtain ⟨y, hy, yes, no⟩ := w
        refine wpAny_handleBy_cons (codeAny_handlers_test ?_) (fun q => by cases q)
        have lt : PySem.W.Looks (model X.prog X.w) hp3 (typeOf (.ref a)) cls := fun A Q E s k q => wpAny_typeOf_ref (k _ _ g3) (by rw [z3.1]; exact q)
        have lm := PySem.W.exm_one (M := model X.prog X.w) J3.kIn lt hy
        have name : ∀ {Q E : Value → Shared → Prop}, Q c { t with heap := hp3 } → wpAny (model X.prog X.w) (X.A.mark (some (.ref a))) (eval (.Name x p1) X.env) Q E { t with heap := hp3 } := fun {Q E} q => by
          obtain ⟨gl, db, hm | ⟨hm, hv, hnn⟩⟩ := nm
          · exact ld_glob (X := X.suite a ((a, o3) :: (X.pn ++ pins))) S3 gl hm q db
          · exact ld_blt (X := X.suite a ((a, o3) :: (X.pn ++ pins))) S3 gl hm hv q hnn db
        refine name (lm.here ?_)
        cases y with
        | false =>
          show wpAny _ X.A (handleBy (.ref a) X.env hs2) _ _ _
          exact ih (no rfl)
        | true =>
          refine codeAny_handlers_suite_as ?_
          refine HandSPX.lands_againZ fl3 fun hp4 fl4 up4 => ?_
          have J4 : Inv X pins σ1 H1 { t with heap := hp4 } := J1.landed noB fl4.1 ((up0.trans up3).trans up4) osq agq
          obtain ⟨o4, v4, g4, z4, d4⟩ := fl4.there
          have S4 := J4.suite g4 d4 nA offL offS
          refine store_ok (X := X.suite a ((a, o4) :: (X.pn ++ pins))) (v := .ref a) S4 nd hn here rfl (fun t5 S5 => ?_) (.inr loc)
          refine wpAny_mono ((su a o4 cls d (X.pn ++ pins) z4 ⟨_, d4⟩).run [] t5 _ H1 _ S5 (yes rfl a nA)) (fun fl t6 z => ?_) (fun _ _ z => False.elim z)
          have gone : ∀ {σ6 : L2.St} {H6 : Hp} {Q : Shared → Prop}, Inv (X.suite a ((a, o4) :: (X.pn ++ pins))) [] σ6 H6 t6 → (∀ t7, Inv X pins (σ6.set i none) H6 t7 → Q t7) →
              wpAny (model X.prog X.w) X.A (do bindName X.env n .none; unbindBehindTheSuite X.env n p2) (fun _ t7 => Q t7) X.xe t6 := fun {σ6 H6 Q} S6 hq => gone_ok (S6.unsuite okX) nd hn loc hq
          cases fl with
          | next => obtain ⟨σ6, H6, S6, q6⟩ := z; exact gone S6 fun t7 J7 => ⟨_, _, J7, q6⟩
          | brk => obtain ⟨σ6, H6, S6, q6⟩ := z; exact gone S6 fun t7 J7 => ⟨_, _, J7, q6⟩
          | cont => obtain ⟨σ6, H6, S6, q6⟩ := z; exact gone S6 fun t7 J7 => ⟨_, _, J7, q6⟩
          | ret u => obtain ⟨v6, σ6, H6, S6, r6, q6⟩ := z; exact gone S6 fun t7 J7 => ⟨_, _, _, J7, r6, q6⟩
    exact go hh want
end
end DL

/-! ### Ma. errors that keep their arguments, and what is heard of them -/
namespace DL
open PySem L2 Evl PySem.Spec PyProof.Rows
section
variable {P : Program} {w : World} {K : PySem.W.Frag} {mg : Str → Option Value} {base : Heap}
theorem spI_len {fs : List Str} {vs : List V} {H : Hp} {Q : VK} {E : XK} (h : spI K fs vs H Q E) : vs.length = fs.length + 1 := by
  obtain ⟨a, C, ws, rfl, e, _⟩ := h
  simp [e]
/-- an __init__ that keeps its one argument -/
theorem ini1 {qual a : Str} {st : Stmt} {fI : Addr} {fd : FuncData} {p1 p2 p3 p4 : Pos} (F : Fun K "__init__" qual st fI fd) (hst : defBody st = [.Assign [.Attribute (.Name "self" p1) a p2] (.Name a p3) p4]) (S : FnScope ["self", a] ["self", a] (defScope st))
    (v0 : Vis (defScope st) "self") (v1 : Vis (defScope st) a) (d1 : (a == ("__debug__" : Str)) = false) (d2 : (a == ("__classdict__" : Str)) = false) : FnOk P w K mg base CX0 1 fI fd ["self", a] (spI K [a]) := by
  refine F.ok S (fun vs H Q E h => spI_len h) fun cdv A outer s H vs Q E hr h => ?_
  refine ⟨_, by rw [hst]; exact pss_one (ps_ost (pe_var (i := 0) rfl v0) (pe_var (i := 1) rfl v1 d1 d2)), ?_⟩
  obtain ⟨x, C, ws, rfl, e, ox, no, hx, k⟩ := h
  match ws, e with
  | [y], _ =>
    refine ⟨y, rfl, .ref x, rfl, x, C, rfl, ox, no a (by simp), .inl ⟨hx, fun dx h1 h2 => ?_⟩⟩
    refine k dx _ upd_same ?_ h1 h2 fun b h3 h4 => ?_
    · rw [upd_ne h2, upd_same]; rfl
    · rw [upd_ne h3, upd_ne h4]
/-- an __init__ that keeps its two arguments -/
theorem ini2 {qual a b : Str} {st : Stmt} {fI : Addr} {fd : FuncData} {p1 p2 p3 p4 q1 q2 q3 q4 : Pos} (F : Fun K "__init__" qual st fI fd) (hst : defBody st = [.Assign [.Attribute (.Name "self" p1) a p2] (.Name a p3) p4, .Assign [.Attribute (.Name "self" q1) b q2] (.Name b q3) q4])
    (S : FnScope ["self", a, b] ["self", a, b] (defScope st)) (v0 : Vis (defScope st) "self") (v1 : Vis (defScope st) a) (v2 : Vis (defScope st) b) (d1 : (a == ("__debug__" : Str)) = false) (d2 : (a == ("__classdict__" : Str)) = false) (e1 : (b == ("__debug__" : Str)) = false) (e2 : (b == ("__classdict__" : Str)) = false) :
    FnOk P w K mg base CX0 1 fI fd ["self", a, b] (spI K [a, b]) := by
  refine F.ok S (fun vs H Q E h => spI_len h) fun cdv A outer s H vs Q E hr h => ?_
  refine ⟨_, by rw [hst]; exact pss_cons (ps_ost (pe_var (i := 0) rfl v0) (pe_var (i := 1) rfl v1 d1 d2)) (pss_one (ps_ost (pe_var (i := 0) rfl v0) (pe_var (i := 2) rfl v2 e1 e2))), ?_⟩
  obtain ⟨x, C, ws, rfl, e, ox, no, hx, k⟩ := h
  match ws, e with
  | [y, z], _ =>
    refine ⟨y, rfl, .ref x, rfl, x, C, rfl, ox, no a (by simp), .inl ⟨hx, fun dx h1 h2 => ?_⟩⟩
    refine ⟨z, rfl, .ref x, rfl, x, C, rfl, ox, no b (by simp), .inr ⟨dx, [(a, y)], upd_same, ?_, by simp, ?_⟩⟩
    · rw [upd_ne h2, upd_same]
    · refine k dx _ ?_ upd_same h1 h2 fun c h3 h4 => ?_
      · rw [upd_ne (Ne.symm h2), upd_same]
      · rw [upd_ne h4, upd_ne h3, upd_ne h4]
end
/-- what is let out bears as many slots as there are names -/
theorem takes_len {X : Cx} {W : WX} (t : Takes X W) : Takes X (fun cls d σ H => σ.length = X.N.length → W cls d σ H) := fun u s' ⟨a, B, sI, pins, σ, H, cls, d, e, I, nb, up, sky, na, os, ag, w⟩ =>
  t u s' ⟨a, B, sI, pins, σ, H, cls, d, e, I, nb, up, sky, na, os, ag, w I.len⟩
end DL

/-! ### Mb. what a def that catches by clauses makes of an error -/
namespace DL
open PySem L2 Evl PySem.Spec PyProof.Rows
/-- a clause: the class, the first text of its answer, which fields follow (shown or as they are) -/
structure Cla where
  C : Addr
  tag : Str
  its : List (Bool × Str)
def itT (K : PySem.W.Frag) (C a : Addr) (cls : Value) (d : Option Addr) : List (Bool × Str) → TA
  | [] => tNil
  | (false, f) :: r => tCons (tXf a cls d C f (tVar 1)) (itT K C a cls d r)
  | (true, f) :: r => tCons (tCB (rReprD K) (tCons (tXf a cls d C f (tVar 1)) tNil)) (itT K C a cls d r)
def claT (K : PySem.W.Frag) (c : Cla) : Addr → Value → Option Addr → TS := fun a cls d => tRet (tTup (tCons (tC (.str c.tag)) (itT K c.C a cls d c.its)))
def claL (K : PySem.W.Frag) (cs : List Cla) : List (Value × (Addr → Value → Option Addr → TS)) := cs.map fun c => (.ref c.C, claT K c)
/-- the answer's items -/
def itD (fs : List (Str × Dat)) : List (Bool × Str) → List Dat → Prop
  | [], ds => ds = []
  | (false, f) :: r, ds => ∃ x t, fs.lookup f = some x ∧ itD fs r t ∧ ds = x :: t
  | (true, f) :: r, ds => ∃ x t, fs.lookup f = some x ∧ (x.pure = true ∧ x.py.showable = true ∧ x.py.hasDict = false ∧ x.py.shown.length ≤ sizeLine ∧ x.py.depth ≤ 64) ∧ itD fs r t ∧ ds = .str x.py.shown :: t
/-- how an error of the class C with the fields fs is told -/
def heardX : List Cla → Addr → List (Str × Dat) → Dat → Prop
  | [], _, _, _ => False
  | c :: r, C, fs, x => if c.C = C then c.its.length ≤ 900 ∧ ∃ ds, itD fs c.its ds ∧ x = .tup (.str c.tag :: ds) else heardX r C fs x
theorem denF_look {K : PySem.W.Frag} {D : Hp} {f : Str} : ∀ {vs : List (Str × V)} {fs : List (Str × Dat)} {x : Dat}, DenF K D vs fs → fs.lookup f = some x → ∃ v, vs.lookup f = some v ∧ Den K D v x
  | _, _, _, .nil, h => nomatch h
  | _, _, _, .cons (f := g) r t, h => by
    by_cases e : f == g
    · rw [List.lookup_cons, e] at h
      cases h
      exact ⟨_, by rw [List.lookup_cons, e], r⟩
    · have e : (f == g) = false := by simpa using e
      rw [List.lookup_cons, e] at h
      obtain ⟨v, h1, h2⟩ := denF_look t h
      exact ⟨v, by rw [List.lookup_cons, e]; exact h1, h2⟩
section
variable {K : PySem.W.Frag} [HasTabs K] {D H : Hp} {T : Tm} {σ σ1 : L2.St} {ρ : Rh} {C a d : Addr} {fs : List (Str × Dat)} {Q : VK}
theorem itT_ok {R : List V → Hp → Prop} (e : Ex D H) (x : XAt K D H d fs) (h1 : σ1[1]? = some (some (.ref a))) : ∀ {its : List (Bool × Str)} {ds : List Dat} {R : List V → Hp → Prop}, itD fs its ds → (∀ ws, ws.length = its.length → DenAll K D ws ds → R ws H) → itT K C a (.ref C) (some d) its σ1 H R
  | [], _, R, h, k => by
    cases (show _ = [] from h)
    exact k [] rfl .nil
  | (false, f) :: r, _, R, h, k => by
    obtain ⟨y, t, hl, ht, rfl⟩ := h
    obtain ⟨vs, hv, dv⟩ := id x
    obtain ⟨v, l, q⟩ := denF_look dv hl
    refine ⟨.ref a, h1, rfl, rfl, d, vs, v, rfl, hv, l, ?_⟩
    exact itT_ok (R := fun _ _ => True) e x h1 ht fun ws hl q2 => k (v :: ws) (by simp [hl]) (.cons q q2)
  | (true, f) :: r, _, R, h, k => by
    obtain ⟨y, t, hl, ⟨g1, g2, g3, g4, g5⟩, ht, rfl⟩ := h
    obtain ⟨vs, hv, dv⟩ := id x
    obtain ⟨v, l, q⟩ := denF_look dv hl
    refine ⟨.ref a, h1, rfl, rfl, d, vs, v, rfl, hv, l, ?_⟩
    refine (acb_repr g1 g2 g3 g4 g5).2 H [v] (fun x H1 => itT K C a (.ref C) (some d) r σ1 H1 fun xs H2 => R (x :: xs) H2) (.cons (q.mono e) .nil) ?_
    exact itT_ok (R := fun _ _ => True) e x h1 ht fun ws hl q2 => k (_ :: ws) (by simp [hl]) (.cons (.str _) q2)
/-- the classes of the clauses lie apart -/
def Apart (K : PySem.W.Frag) (cs : List Cla) : Prop := ∀ c ∈ cs, ∀ c' ∈ cs, PySem.W.exmOne K (.ref c.C) (.ref c'.C) = some (decide (c'.C = c.C))
theorem heard_in : ∀ {cs : List Cla} {C : Addr} {fs : List (Str × Dat)} {x : Dat}, heardX cs C fs x → ∃ c ∈ cs, c.C = C
  | [], _, _, _, h => h.elim
  | c :: r, C, fs, x, h => by
    by_cases e : c.C = C
    · exact ⟨c, List.mem_cons_self, e⟩
    · have h2 : heardX r C fs x := by
        have h' : (if c.C = C then _ else heardX r C fs x) := h
        rwa [if_neg e] at h'
      obtain ⟨c', h3, h4⟩ := heard_in h2
      exact ⟨c', List.mem_cons_of_mem _ h3, h4⟩
theorem wAll_ok {cs : List Cla} {x : Dat} (ap : Apart K cs) (s : Sd K D H T σ ρ) (xa : XAt K D H d fs) (hx : heardX cs C fs x) (k : ∀ v D' H', Sd K D' H' ((v, .d x) :: T) σ ρ → Q v H') {σ0 : L2.St} (h2 : σ0.length = 2) :
    wAll K (fun _ _ _ _ => False) 1 { nx := fun _ H' => Q .non H', rt := Q } (claL K cs) (.ref C) (some d) σ0 H := by
  obtain ⟨c0, m0, rfl⟩ := heard_in hx
  have go : ∀ r : List Cla, (∀ c ∈ r, c ∈ cs) → heardX r c0.C fs x → wAll K (fun _ _ _ _ => False) 1 { nx := fun _ H' => Q .non H', rt := Q } (claL K r) (.ref c0.C) (some d) σ0 H := by
    intro r
    induction r with
    | nil => intro _ h; exact h.elim
    | cons c r ih =>
      intro hm h
      refine ⟨_, ap c0 m0 c (hm c List.mem_cons_self), fun y a ha => ?_, fun y => ?_⟩
      · have y : c.C = c0.C := of_decide_eq_true y
        have h' : (if c.C = c0.C then _ else heardX r c0.C fs x) := h
        rw [if_pos y] at h'
        obtain ⟨few, ds, hd, rfl⟩ := h'
        show itT K c.C a (.ref c0.C) (some d) c.its _ H _
        rw [y]
        refine itT_ok (R := fun _ _ => True) s.ex xa (by rw [List.getElem?_set_self (by omega)]) hd fun ws hl q => ⟨?_, fun p hp => ?_⟩
        · rw [List.length_cons, hl, sizeLine_eq]; omega
        · have sn := s.new hp (.tup (.str c.tag :: ws))
          exact k _ _ _ (sn.push (.tup upd_same (.cons (.str _) (q.mono (Ex.new (s.dnone hp))))))
      · have y : ¬ c.C = c0.C := of_decide_eq_false y
        have h' : (if c.C = c0.C then _ else heardX r c0.C fs x) := h
        rw [if_neg y] at h'
        exact ih (fun c hc => hm c (List.mem_cons_of_mem _ hc)) h'
  exact go cs (fun _ h => h) hx
end
end DL

/-! ### Mc. a lambda handed to a def that catches by clauses -/
namespace DL
open PySem L2 Evl PySem.Spec PyProof.Rows
/-- try: return (tag, a()) / except X as n: return (..) / .. -/
def TTh (K : PySem.W.Frag) (tag : Str) (cs : List Cla) : (XK → Hp → VK → Prop) → Hp → VK → Prop := fun tl H Q =>
  tl (fun cls d H' => ∀ σ : L2.St, σ.length = 2 → wAll K (fun _ _ _ _ => False) 1 { nx := fun _ H' => Q .non H', rt := Q } (claL K cs) cls d σ H') H
    (fun v H' => ∀ p, H' p = none → Q (.ref p) (upd H' p (.tup [.str tag, v])))
theorem heard_gives {X : Cx} {x a n q tag : Str} {sg : Scope} {g : Addr} {cdg : Value} {j k0 : Nat} {p1 p2 p3 p4 p5 p6 : Pos} {h0 : ExceptHandler} {hs : List ExceptHandler} {cs : List Cla} (na : a ≠ n) (loc : sg.names.lookup n = some .local)
    (hh : ∀ (s : Shared) (H : Hp), Hands' (cxOf C8.CX0 X.prog X.w X.K X.mg X.base [a, n] x sg g cdg X.A X.stack s H C8.E0).nox n (h0 :: hs) (claL X.K cs)) :
    LamX.GivesTo X [a, n] x sg g cdg [.Try [.Return (some (.Tuple [.Constant (.str tag) j p4, .Call (.Name a p1) [] [] p2] k0 p5)) p3] (h0 :: hs) [] [] p6] a q (TTh X.K tag cs) := by
  intro f c' s H Q tl act hc h
  refine ⟨_, pss_one (ps_tryAll (X := (cxOf C8.CX0 X.prog X.w X.K X.mg X.base [a, n] x sg g cdg X.A X.stack s H C8.E0).nox) (n := n) (i := 1) (l := claL X.K cs)
      (tb := fun W D σ H => ∃ Ech : XK, (∀ cls d σ' H', Ech cls d H' → (σ'.length = 2 → W cls d σ' H')) ∧ σ[0]? = some (some (.ref f)) ∧ H c' = some (LamX.CodeO c' q) ∧ tl Ech H (fun v H' => ∀ p, H' p = none → D.rt (.ref p) (upd H' p (.tup [.str tag, v]))))
      rfl rfl (by show [a, n].Nodup; simp [na]) rfl loc LamX.takes0 (fun W pn xe tk _ => ?_) (hh s H)), ?_⟩
  · refine ⟨fun pn2 s' σ H' D I z => ?_⟩
    obtain ⟨Ech, hW, h1, h2, h3⟩ := z
    have hp := act _ pn xe Ech p1 p2 (takes_len tk) hW
    have hq := pss_one (ps_ret (pos := p3) (pe_tup (pos := p5) (x1 := k0) (pa_cons (pe_str (x := tag) (j := j) (pos := p4)) (pa_cons hp pa_nil))))
    refine hq.run pn2 s' σ H' D I ⟨h1, h2, ?_⟩
    show tl Ech H' _
    have e : (fun (v : V) (H1 : Hp) => ([V.str tag, v]).length ≤ sizeLine ∧ ∀ p, H1 p = none → D.rt (.ref p) (upd H1 p (.tup [.str tag, v]))) = fun v H' => ∀ p, H' p = none → D.rt (.ref p) (upd H' p (.tup [.str tag, v])) := by
      funext v H1
      exact propext ⟨fun z => z.2, fun z => ⟨by rw [sizeLine_eq]; show 2 ≤ _; omega, z⟩⟩
    show tl Ech H' (fun (v : V) (H1 : Hp) => ([V.str tag, v]).length ≤ sizeLine ∧ ∀ p, H1 p = none → D.rt (.ref p) (upd H1 p (.tup [.str tag, v])))
    rw [e]
    exact h3
  · exact ⟨_, fun cls d σ' H' z hl => z σ' hl, rfl, hc, h⟩
section
variable {K : PySem.W.Frag} [HasTabs K] {E : XK} {t : XK → TE} {ρ : Rh} {P : EPost} {tag : Str} {cs : List Cla}
/-- x(lambda: body): what the body gives, told; what it raises, told by its clause -/
theorem ev_heard (ap : Apart K cs) (h : ∀ E', EvP K E' (t E') ρ (fun r ρ1 => match r with
    | .ok o => ∃ x, o = .d x ∧ P (.ok (.d (.tup [.str tag, x]))) ρ1
    | .ex C fs => ∃ x, heardX cs C fs x ∧ P (.ok (.d x)) ρ1)) : EvP K E (LamX.tLam (HasTabs.tt K) (TTh K tag cs) t) ρ P := by
  intro D H T σ Q s k xo
  refine ⟨s.tb.ext s.ex, fun H1 n1 t1 => ?_⟩
  obtain ⟨D1, s1⟩ := s.tabs n1 t1
  refine h _ D1 H1 T σ _ s1 (fun v o ρ' D' H' q s' p hp => ?_) fun C fs ρ' D' H' d q s' xa σ0 h2 => ?_
  · obtain ⟨x, rfl, q⟩ := q
    have hv : Den K D' v x := by
      have z := s'.tm (v, .d x) List.mem_cons_self
      cases z with
      | d z => exact z
    exact k _ _ ρ' _ _ q ((s'.pop.new hp (.tup [.str tag, v])).push (.tup upd_same (.cons (.str _) (.cons (hv.mono (Ex.new (s'.dnone hp))) .nil))))
  · obtain ⟨x, hx, q⟩ := q
    exact wAll_ok ap s' xa hx (fun v D2 H2 z => k v _ ρ' D2 H2 q z) h2
end
end DL

/-! ### Md. the top of a law with tables of lambdas -/
namespace DL
open PySem L2 Evl PySem.Spec PyProof.Rows
abbrev tabO : Obj := { cls := .none, data := .fields #[] }
/-- tracked at the entry: the empty tables Ps, and the script -/
def entH (K : PySem.W.Frag) (Ps : List Addr) (a : Addr) (o : Obj) (ns : List Int) : Hp := fun b => if b ∈ Ps then some (.tbl #[]) else scrH K a o ns b
theorem entH_inv {K : PySem.W.Frag} {Ps : List Addr} {a b : Addr} {o : Obj} {ns : List Int} {u : HO} (z : entH K Ps a o ns b = some u) : (b ∈ Ps ∧ u = .tbl #[]) ∨ (b ∉ Ps ∧ b = a ∧ K.lookup a = none ∧ u = .frz o (.lst (ns.map V.int))) := by
  unfold entH at z
  split at z
  · rename_i h; cases z; exact .inl ⟨h, rfl⟩
  · rename_i h
    unfold scrH at z
    split at z
    · rename_i c; cases z; exact .inr ⟨h, c.1, c.2, rfl⟩
    · cases z
/-- what the head tells of the makers' code objects and their tables -/
structure Tbs (K : PySem.W.Frag) (h : Heap) (cs : List (Addr × Addr)) : Prop where
  tab : ∀ p ∈ cs, h.get? p.2 = some tabO
  out : ∀ p ∈ cs, K.lookup p.2 = none
  code : ∀ p ∈ cs, PySem.W.CodeHd h p.1 p.2
/-- the module of the built-ins stands where the law's module names it -/
def BltAt (mg : Str → Option Value) (h : Heap) : Prop := ∃ (m : Addr) (u : Obj), mg "__builtins__" = some (.ref m) ∧ m ≠ builtinsNs ∧ h.get? m = some u ∧ u.cls = .type "module" ∧ u.dict = some builtinsNs ∧ u.data = .plain
theorem topT {P : Program} {w : World} {K : PySem.W.Frag} [HasTabs K] {mg mb : Str → Option Value} {k : Nat} {fa a : Addr} {fd : FuncData} {x : Str} {s₁ : Shared} {vs : List Value} {ns : List Int} {cs : List (Addr × Addr)}
    (KX : K.In s₁.heap) (hns : s₁.heap.Ns mainGlobals mg) (hb : s₁.heap.Ns builtinsNs mb) (hbb : ∀ x : Str, x ≠ "__name__" → mb x = bootBuiltins x) (hlim : s₁.heap.NoLimit) (hg : s₁.gens = #[]) (hc : Tbs K s₁.heap cs)
    (hbm : BltAt mg s₁.heap)
    (ha : s₁.heap.get? a = some { cls := .type "list", data := .seq vs.toArray }) (hi : IntsAre vs ns) (hl : ns.length ≤ 63) (hr : Room k callerA) (ht : ∀ p ∈ HasTabs.tt K, p.1 ∈ cs.map Prod.snd)
    (F : ∀ base : Heap, K.In base → base.Ns mainGlobals mg → (∀ p ∈ cs, LamX.TabB base mg p.1 p.2) → FnG P w K mg base k fa fd [x] (spOf K R_lawS)) (hbind : ∀ (s : Shared) (u : Value), BindsTo s fd ⟨[u], []⟩ [(x, u)]) :
    codeAny (model P w) callerA (.call (.ref fa) ⟨[.ref a], []⟩) (fun r s' => r = .ok (.ret (.bool true)) ∧ PySem.OldK s₁.heap s'.heap ∧ s'.os = s₁.os ∧ AllBare s'.gens) s₁ := by
  have hsz : (ns.map V.int).length ≤ sizeLine := by rw [List.length_map, sizeLine_eq]; omega
  let Ps := cs.map Prod.snd
  let o : Obj := { cls := .type "list", data := .seq vs.toArray }
  let H := entH K Ps a o ns
  have tabAt : ∀ b, b ∈ Ps → s₁.heap.get? b = some tabO ∧ K.lookup b = none := fun b hb => by
    obtain ⟨p, hp, rfl⟩ := List.mem_map.mp hb
    exact ⟨hc.tab p hp, hc.out p hp⟩
  have aP : a ∉ Ps := fun z => by
    have q := (tabAt a z).1
    rw [ha] at q
    exact nomatch congrArg Obj.data (Option.some.inj q)
  have off : ∀ {b : Addr} {ob : Obj}, s₁.heap.get? b = some ob → (∀ n m, ob.data ≠ .seq n m) → ob.data ≠ .fields #[] → H b = none := fun {b ob} e h1 h2 => by
    cases q : H b with
    | none => rfl
    | some u =>
      rcases entH_inv q with ⟨hb, _⟩ | ⟨_, rfl, _, _⟩
      · rw [(tabAt b hb).1] at e
        exact absurd (congrArg Obj.data (Option.some.inj e)).symm h2
      · rw [ha] at e
        exact absurd (congrArg Obj.data (Option.some.inj e)).symm (h1 _ _)
  have seen : ∀ {b : Addr} {ob : Obj}, s₁.heap.get? b = some ob → (∀ n m, ob.data ≠ .seq n m) → ob.data ≠ .fields #[] → (hidT s₁.heap H).get? b = some ob := fun e h1 h2 => hidT_get e (off e h1 h2)
  have ns0 : ∀ {b : Addr} {m : Str → Option Value}, s₁.heap.Ns b m → (hidT s₁.heap H).Ns b m := fun {b m} h => by
    obtain ⟨ob, es, ep, e, d, r⟩ := h
    exact ⟨ob, es, ep, seen e (fun n m z => by rw [d] at z; cases z) (fun z => by rw [d] at z; cases z), d, r⟩
  have kin : K.In (hidT s₁.heap H) := fun b ob e => hidT_get (KX b ob e) (by
    cases q : H b with
    | none => rfl
    | some u =>
      rcases entH_inv q with ⟨hb, _⟩ | ⟨_, rfl, z, _⟩
      · rw [(tabAt b hb).2] at e; cases e
      · rw [z] at e; cases e)
  have hM : Mod K mg (hidT s₁.heap H) := ⟨kin, ns0 hns, ⟨mb, ns0 hb, hbb⟩, hlim.elim fun mc h => ⟨mc, ns0 h.1, h.2⟩⟩
  have hok : HOk P w H s₁.heap := fun b u z => by
    rcases entH_inv z with ⟨hb, rfl⟩ | ⟨_, rfl, _, rfl⟩
    · exact (tabAt b hb).1
    · exact ⟨ha, hsz, vs, _, vals_ints hi, ha⟩
  have e0 : Env0 P w K mg (hidT s₁.heap H) callerA [] s₁ H := ⟨rfl, hM, fun b ob e => of_hidT e, Nat.le_of_eq (hidT_size _ _), trivial, fun b hb => absurd (show b ∈ ([] : List Addr) from hb) (by simp), hok, .of_eq hg⟩
  have hH : ∀ b, b ∈ Ps → H b = some (.tbl #[]) := fun b hb => if_pos hb
  have hS : SqL K H a (ns.map V.int) := by
    cases hk : K.lookup a with
    | some ok =>
      have e := KX a ok hk
      rw [ha] at e
      cases e
      exact .inr ⟨_, vs.toArray, _, hk, rfl, rfl, rfl, by rw [List.size_toArray, hi.length, sizeLine_eq]; omega, by simpa using vals_ints hi⟩
    | none => exact .inl (.inr ⟨o, (if_neg aP).trans (if_pos ⟨rfl, hk⟩)⟩)
  have nG : ∀ {b : Addr}, s₁.heap.get? b = some tabO → mainGlobals ≠ b := fun {b} e z => by
    obtain ⟨ob, es, ep, e2, hd, _⟩ := hns
    rw [z, e] at e2
    cases e2
    cases hd
  have TB : ∀ p ∈ cs, LamX.TabB (hidT s₁.heap H) mg p.1 p.2 := fun p hp => by
    refine ⟨?_, ?_, nG (hc.tab p hp)⟩
    · obtain ⟨oc, us, file, tf, flags, tg, inF, text, tt, e1, r1, r2, r3, rs⟩ := hc.code p hp
      refine ⟨oc, us, file, tf, flags, tg, inF, text, tt, seen e1 (fun n m z => by rw [r2] at z; cases z) (fun z => ?_), r1, r2, r3, rs⟩
      rw [r2] at z
      cases z
      simp at r3
    · obtain ⟨m, u, b1, b2, b3, b4, b5, b6⟩ := hbm
      refine ⟨m, u, b1, b2, fun q => ?_, fun q => ?_, seen b3 (fun n m z => by rw [b6] at z; cases z) (fun z => by rw [b6] at z; cases z), b4, b5, b6⟩
      · obtain ⟨og, es, ep, e, hd, _⟩ := hns
        rw [q, e] at b3
        cases b3
        rw [hd] at b6
        cases b6
      · rw [q, hc.tab p hp] at b3
        cases b3
        cases b6
  have run := (F _ kin (ns0 hns) TB).run callerA [] s₁ H ⟨[.ref a], []⟩ [.ref a] [.ref a] _ _ rfl hr e0 (hbind s₁ (.ref a)) (.cons rfl .nil) (spOf_law hl hS fun p hp => LamX.TabS.nil (hH _ (ht p hp)))
  refine codeAny_mono run fun r s' z => ?_
  match r, z with
  | .ok (.ret u), z =>
    obtain ⟨v, H', os, bare, un, hok', rv, qv⟩ := z
    have qv : v = .bl true := qv
    subst qv
    obtain rfl : u = Value.bool true := rv
    have old : ∀ b ob, b ∉ Ps → s₁.heap.get? b = some ob → s'.heap.get? b = some ob := fun b ob nb e => by
      cases q : H b with
      | none => exact un.keep b ob e q (by intro z; exact absurd (show b ∈ ([] : List Addr) from z) (by simp)) (by simp)
      | some u =>
        rcases entH_inv q with ⟨hb, _⟩ | ⟨_, rfl, _, rfl⟩
        · exact absurd hb nb
        · obtain ⟨e2, _⟩ := hok' b _ (un.frzs b o _ q)
          rw [ha] at e
          rw [e2, ← e]
    have more : ∀ b, b ∈ Ps → ∃ ps : Array Value, s'.heap.get? b = some { cls := .none, data := .fields ps } := fun b hb => by
      obtain ⟨ps, z⟩ := un.tbls b #[] (hH b hb)
      exact ⟨_, hok' b _ z⟩
    refine ⟨rfl, ⟨fun b ob e => ?_, fun b ob e => ?_⟩, os, bare⟩
    · by_cases hb : b ∈ Ps
      · obtain ⟨p, hp, rfl⟩ := List.mem_map.mp hb
        obtain ⟨ps, hm⟩ := more _ hb
        have e2 := hc.tab p hp
        rw [e] at e2
        cases e2
        exact .inr (.inl ⟨((hc.code p hp).tab e).isCodeTable, rfl, #[], ps, rfl, by rw [Array.empty_append]; exact hm⟩)
      · exact .inl (old b ob hb e)
    · by_cases hb : b ∈ Ps
      · obtain ⟨ps, hm⟩ := more _ hb
        exact ⟨_, hm⟩
      · exact ⟨ob, old b ob hb e⟩
  | .ok .next, z => exact False.elim z
  | .ok .brk, z => exact False.elim z
  | .ok .cont, z => exact False.elim z
  | .error e, z => exact False.elim z
theorem walkT {l : PySem.W.OpenLaw} {k : Nat} {q : Program} {loose : List Str} {XP : (Str → Option Value) → Heap → Prop} {YP : World → Heap → Prop} {d : DefRec} {K : Params → PySem.W.Frag} [i0 : ∀ p, HasTabs (K p)] {x : Str} {cs : List (Addr × Addr)} (ht : ∀ p, ∀ q ∈ HasTabs.tt (K p), q.1 ∈ cs.map Prod.snd)
    (hn : l.most = some 63) (hdf : d.params.defaults = []) (hr : Room k callerA) (hY : ∀ (w : World) (h : Heap), YP w h → (K w.params).In h) (hc : ∀ (w : World) (h : Heap), YP w h → (K w.params).In h → Tbs (K w.params) h cs)
    (F : ∀ (w : World) (mg : Str → Option Value) (fa : Addr) (h : Heap), (K w.params).In h → h.Ns mainGlobals mg → mg d.name = some (.ref fa) →
      ∃ fd : FuncData, (∀ (s : Shared) (u : Value), BindsTo s fd ⟨[u], []⟩ [(x, u)]) ∧ ∀ base : Heap, (K w.params).In base → base.Ns mainGlobals mg → (∀ p ∈ cs, LamX.TabB base mg p.1 p.2) → FnG l.prog w (K w.params) mg base k fa fd [x] (spOf (K w.params) R_lawS)) :
    PySem.W.WalkO q loose XP YP l.row.toRowW d [] (fun f vs => PySem.call f vs) := by
  refine Att.attach_call hn hdf fun w s₀ s₁ mg mb fa o pm cd doc a vs ns G Y _ _ _ hmg hobj hints hlen hg => ?_
  have KX := hY w _ Y
  obtain ⟨fd, hb, hF⟩ := F w mg fa _ KX G.T.g hmg
  exact topT KX G.T.g G.T.b G.T.builtins G.T.nolimit hg (hc w _ Y KX) G.T.bmain hobj hints hlen hr (ht _) hF hb
end DL

/-! ### Me. raising defs with a default; defs that make lambdas; the heard lambda -/
namespace DL
open PySem L2 Evl PySem.Spec PyProof.Rows
section
variable {P : Program} {w : World} {K : PySem.W.Frag} [HasTabs K] {mg : Str → Option Value} {base : Heap}
theorem DfnD.okX {x qual : Str} {st : Stmt} {N ps : List Str} {k : Nat} {R : Pr} {dv : V} (F : DfnD K mg x qual st ps dv) (S : FnScope N ps (defScope st)) (hl : ps.length ≤ N.length) (len : ∀ os Pp, R os Pp → os.length = ps.length)
    (hb : ∀ (f : Addr) (cdv : Value) (A : Around) (outer : List Env) (s : Shared) (H : Hp) (E : XK), Room k (A.deeper (PyProof.Rows.envOfC qual (defScope st) s.heap.objs.size f cdv)) →
      ∃ t, PSs (cxOf (L2.CX P w) P w K mg base N qual (defScope st) f cdv A outer s H E) (defBody st) t ∧ ∀ os Pp, R os Pp → SvP K E t (os.map some ++ List.replicate (N.length - os.length) none) (retS os Pp)) : OkX P w K mg base (k + 1) x ps R := by
  obtain ⟨f, fd, h1, h2, h3, h4, _, _⟩ := F.ex
  have G : FnOk P w K mg base (L2.CX P w) (k + 1) f fd ps (spOf K R) := by
    refine h3.ok (CX := L2.CX P w) S (fun vs H Q E h => ?_) (fun cdv A outer s H vs Q E hr h => ?_)
    · obtain ⟨D, T, os, Pp, e, _, r, _⟩ := h
      exact e.trans (len os Pp r)
    · obtain ⟨t, ht, hb2⟩ := hb f cdv A outer s H E hr
      refine ⟨t, ht, run_body (ps := ps) ?_ h hb2⟩
      obtain ⟨D, T, os, Pp, e, _, r, _⟩ := h
      rw [e, len os Pp r]
      exact hl
  exact ⟨f, fd, h1, h2, h4, G⟩
/-- a def of the module whose code object stands at c -/
structure DfnC (K : PySem.W.Frag) (mg : Str → Option Value) (x qual : Str) (st : Stmt) (ps : List Str) (c : Addr) : Prop where
  ex : ∃ (f : Addr) (fd : FuncData), mg x = some (.ref f) ∧ PySem.W.keepIn K (.ref f) = true ∧ Binds K fd ps [] ∧ Fun K x qual st f fd ∧ fd.code = .ref c
theorem fnG_code {x qual : Str} {st : Stmt} {f c : Addr} {fd : FuncData} {N ps : List Str} {k : Nat} {sp : Sp} (F : Fun K x qual st f fd) (hcode : fd.code = .ref c) (S : FnScope N ps (defScope st)) (len : ∀ vs H Q E, sp vs H Q E → vs.length = ps.length)
    (hbody : ∀ (A : Around) (outer : List Env) (s : Shared) (H : Hp) (vs : List V) (Q : VK) (E : XK), A.guards = some [] → Room k (A.deeper (envOfC qual (defScope st) s.heap.objs.size f (.ref c))) → sp vs H Q E →
      ∃ t, PSs (cxOf CX0 P w K mg base N qual (defScope st) f (.ref c) A outer s H E).nox (defBody st) t ∧ t { nx := fun _ H' => Q .non H', rt := Q } (L2.start N vs) H) : FnG P w K mg base (k + 1) f fd ps sp := by
  obtain ⟨oc, od, kV, doc, pm, an, cdv, ct, osl, rfl, lk, hcd⟩ := F.ex
  obtain rfl : cdv = .ref c := hcode
  constructor
  · exact len
  · intro A outer s H args us vs Q E hg hr e0 hb hv h
    obtain ⟨t, ht, hq⟩ := hbody A outer s H vs Q E hg (hr.deeper _) h
    have hl := len _ _ _ _ h
    have hin : K.In s.heap := e0.mod.kin.keeps fun b o e => (e0.bs b o e).1
    refine codeAny_call_function hr.depth (hin _ _ lk) rfl S.co S.gen rfl (PySem.W.codeRec_of hin hcd) (hb _ _ _ _ ?_)
    refine wpAny_newFunctionEnv_cells S.kind (fun y hy => ?_) fun env he s1 x1 => ?_
    · obtain ⟨n, v⟩ := y
      exact (S.par n (List.of_mem_zip hy).1).imp id fun q => ⟨q, PySem.W.cellsFrom_some _ _ _ (.inl q)⟩
    · subst he
      have nl : s.heap.NoLimit := e0.mod.nolimit.keeps fun b o e => (e0.bs b o e).1
      have I := inv_start (CX := CX0) (E := E) S hr.hd e0 hl hv x1
      refine ⟨nl.keeps x1.toInCall.keep, codeAny_func (wpAny_mono (ht.nox.run [] s1 (L2.start N vs) H _ I hq) (fun fl s' z => ?_) fun _ _ z => z)⟩
      cases fl with
      | next =>
        obtain ⟨σ', H', J, z⟩ := z
        exact ⟨V.non, H', J.os, J.bare, J.base, J.hok, rfl, z⟩
      | ret u =>
        obtain ⟨v, σ', H', J, rv, z⟩ := z
        exact ⟨v, H', J.os, J.bare, J.base, J.hok, rv, z⟩
      | brk => exact z.elim fun _ z => z.elim fun _ z => z.2.elim
      | cont => exact z.elim fun _ z => z.elim fun _ z => z.2.elim
theorem DfnC.okG {x qual : Str} {st : Stmt} {N ps : List Str} {k : Nat} {R : Pr} {c : Addr} (F : DfnC K mg x qual st ps c) (S : FnScope N ps (defScope st)) (hl : ps.length ≤ N.length) (len : ∀ os Pp, R os Pp → os.length = ps.length)
    (noex : ∀ os Pp, R os Pp → R os (fun r us => (match r with | .ok _ => True | .ex _ _ => False) ∧ Pp r us))
    (hbody : ∀ (f : Addr) (A : Around) (outer : List Env) (s : Shared) (H : Hp) (E : XK), A.guards = some [] → Room k (A.deeper (PyProof.Rows.envOfC qual (defScope st) s.heap.objs.size f (.ref c))) →
      ∃ t, PSs (cxOf CX0 P w K mg base N qual (defScope st) f (.ref c) A outer s H E).nox (defBody st) t ∧ ∀ os Pp, R os Pp → SvP K E0 t (os.map some ++ List.replicate (N.length - os.length) none) (retS os Pp)) : OkG P w K mg base (k + 1) x ps R := by
  obtain ⟨f, fd, h1, h2, h3, h4, h5⟩ := F.ex
  refine ⟨f, fd, h1, h2, h3, fnG_code h4 h5 S (fun vs H Q E h => ?_) fun A outer s H vs Q E hg hr h => ?_⟩
  · obtain ⟨D, T, os, Pp, e, _, r, _⟩ := h
    exact e.trans (len os Pp r)
  · obtain ⟨t, ht, hb⟩ := hbody f A outer s H E hg hr
    refine ⟨t, ht, ?_⟩
    obtain ⟨D, T, os, Pp, e, s1, r, k1, k2⟩ := h
    exact run_body (K := K) (E := E0) (R := R) (ps := ps) (by rw [e, len os Pp r]; exact hl) ⟨D, T, os, _, e, s1, noex os Pp r, fun v o us D' H' q => k1 v o us D' H' q.2, fun C fs us D' H' d q => q.1.elim⟩ hb
end
section
variable {X : Cx} {K : PySem.W.Frag} {mg : Str → Option Value}
/-- x(lambda: e), x a def that catches by clauses -/
theorem pe_heard {x a n tag : Str} {st : Stmt} {cs : List Cla} {c P' : Addr} {T : List (Addr × Str)} {k : Nat} {params : Arguments} {body : Expr} {scope : Scope} {t : XK → TE} {p lpos pos : Pos} (hX : X.K = K ∧ X.mg = mg) (F : Dfn K mg x x st [a]) (S : FnScope [a, n] [a] (defScope st)) (hva : Vis (defScope st) a)
    (hG : ∀ (g : Addr) (cdg : Value) (q : Str), LamX.GivesTo X [a, n] x (defScope st) g cdg (defBody st) a q (TTh K tag cs)) (TB : LamX.TabB X.base X.mg c P') (hcode : X.env.code = .ref c) (hmT : (P', X.env.qual ++ "<lambda>") ∈ T) (hu : ∀ p ∈ T, p.1 = P' → p.2 = X.env.qual ++ "<lambda>")
    (hr : Room (k + 2) X.A) (hg : Gl X x) (L : LamX.LamS X.env.scope scope)
    (hbody : ∀ (A : Around) (outer : List Env) (s : Shared) (H : Hp) (E : XK) (f c' : Addr), Room k (A.deeper (LamX.lamEnv X scope s.heap.objs.size f c')) → PE (LamX.lamCx X A outer s H E scope f c') body (t E))
    (hdef : defaultsOf params X.env = ([], []) := by rfl) (hbind : ∀ (q : Str) (cl : List (Str × Addr)) (pm cv ctv : Value), bindArgs (PySem.W.kla_fn "<lambda>" q params body scope cl pm cv ctv) ⟨[], []⟩ = pure [] := by intro _ _ _ _ _; rfl)
    (hdb : (x == ("__debug__" : Str)) = false := by decide) (hd : (a == ("__debug__" : Str)) = false := by decide) (hcd : (a == ("__classdict__" : Str)) = false := by decide) :
    PE X (.Call (.Name x p) [.Lambda params body scope lpos] [] pos) (LamX.tLam T (TTh K tag cs) t) := by
  obtain ⟨rfl, rfl⟩ := hX
  obtain ⟨g, fd, h1, h2, h3, h4⟩ := F.ex
  obtain ⟨oc, od, kV, doc, pm, an, cdv, ct, osl, rfl, lk, hcd2⟩ := h4.ex
  exact LamX.pe_lamcall (a := a) (Ng := [a, n]) hg h1 h2 lk hcd2 h3 S rfl hva (hG g cdv _) TB hcode hmT hu hr L hdef hbind hbody hdb hd hcd
end
end DL

/-! ### Mf. slices of tuples, texts that can be laid -/
namespace DL
open PySem L2 Evl PySem.Spec PyProof.Rows
theorem laid_of (s : String) : PyData.canLay0 (.str (Str.ofString s)) = true := by
  show PySem.PyData.strOk (Str.ofString s) = true
  unfold PySem.PyData.strOk
  rw [PySem.Str.ofString_eq_toList]
  show ((s.toList.map Char.toNat).toArray).all _ = true
  rw [Array.all_eq_true']
  intro x hx
  have hx : x ∈ s.toList.map Char.toNat := by simpa using hx
  obtain ⟨c, _, rfl⟩ := List.mem_map.mp hx
  refine decide_eq_true ?_
  have := c.valid
  rcases this with h | h
  · have h : c.toNat < 0xd800 := h
    omega
  · have h : c.toNat < 0x110000 := h.2
    exact h
section
variable {K : PySem.W.Frag} [HasTabs K] {E : XK} {te ta : TE} {ρ : Rh} {P : EPost}
/-- xs[j:] of a tuple -/
theorem ev_slT (h : EvP K E te ρ (bnd (fun x ρ1 => ∃ ds, x = .d (.tup ds) ∧ EvP K E ta ρ1 (bnd (fun y ρ2 => ∃ j, y = .d (.int j) ∧ P (.ok (.d (.tup (cutD ds (some j) none)))) ρ2) P)) P)) : EvP K E (tSl (rSlA K) te (tPart ta) tNoPart) ρ P := by
  intro D H T σ Q s k xo
  refine h D H T σ _ s (fun v x ρ1 D1 H1 q1 s1 => ?_) (xo.sub0 fun _ _ _ z => z)
  obtain ⟨ds, rfl, q1⟩ := q1
  refine q1 D1 H1 _ σ _ s1 (fun w y ρ2 D2 H2 q2 s2 => ?_) (xo.sub1 fun _ _ _ z => z)
  obtain ⟨j, rfl, hp⟩ := q2
  have hx := s2.tm (v, _) (List.mem_cons_of_mem _ List.mem_cons_self)
  have hy := s2.tm (w, _) List.mem_cons_self
  cases hy with
  | d hy =>
    cases hy
    cases hx with
    | d hx =>
      cases hx with
      | tup g1 g2 =>
        have s3 : Sd K D2 H2 T σ ρ2 := s2.pop.pop
        refine ⟨j, rfl, _, _, rfl, st_of (s2.ex _ _ g1), fun hw => ?_, fun _ l hl => k _ _ _ _ _ hp ((s3.new hl _).push (.tup upd_same ((cut_den g2 (some j) none).mono (Ex.new (s3.dnone hl)))))⟩
        have e : cutD ds (some j) none = ds := by
          unfold cutD
          rw [← g2.length, hw.1]
          show (ds.drop 0).take _ = ds
          rw [List.drop_zero, List.take_of_length_le]
          show ds.length ≤ _ - 0
          rw [← g2.length]
          exact Nat.le_refl _
        exact k _ _ _ _ _ (by rw [e] at hp; exact hp) (s3.push (.tup g1 g2))
end
end DL

/-! ### Mg. beginnings of tuples, sorted numbers, how many unlike ones, membership -/
namespace DL
open PySem L2 Evl PySem.Spec PyProof.Rows
section
variable {X : Cx}
/-- len(set(t)), t a tuple of unlike numbers -/
def tLenSetT (K : PySem.W.Frag) (ta : TE) : TE := fun σ H Q => ta σ H fun x H1 => ∃ (l : Addr) (ns : List Int), x = V.ref l ∧ SqT K H1 l (ns.map V.int) ∧ ns.length ≤ 1000 ∧ ns.Nodup ∧ Q (.int ns.length) H1
theorem pe_lenSetT {K : PySem.W.Frag} {a : Expr} {ta : TE} {p p2 q pos : Pos} (hK : X.K = K) (hc : X.calm = true) (hg : Gl X "len") (hm : X.mg "len" = none) (hg2 : Gl X "set") (hm2 : X.mg "set" = none) (ha : PE X a ta)
    (na : starEach [a] X.env = (false, eval a X.env) :: starEach [] X.env := by rfl) : PE X (.Call (.Name "len" p) [.Call (.Name "set" p2) [a] [] q] [] pos) (tLenSetT K ta) := by
  subst hK
  refine ⟨fun pins s σ H Q I h => Call_ (ld_blt I hg hm PySem.boot_len ?_)⟩
  refine callWith_builtin1 (args_cons ?_ rfl) rfl rfl
  refine Call_ (ld_blt I hg2 hm2 boot_set (callWith_type1 (args_cons (thn (ha.run pins s σ H _ I h) fun v s1 ⟨x, H1, I1, r1, q1⟩ => args_nil ?_) na) na rfl))
  obtain ⟨l, ns, rfl, hq, h1, hnd, q1⟩ := q1
  cases r1
  obtain ⟨its, rv, pt, hz⟩ := I1.tuple hq
  refine call_set_tupI ns (I1.ok.hd hc) (show s1.heap.IsTuple l its.toArray from pt) (ints_of_vals rv) (by unfold scanBound; omega) fun h' tk c R1 hcn k => args_nil ?_
  obtain ⟨o, es, ep, t, ho, hex, hdt, g, nd, hm2, hb, hf, hn, hr, hl2⟩ := R1
  have hlen : es.size = ns.length := by
    have e1 : (es.toList.map keyOf).length = ns.length := ((List.perm_ext_iff_of_nodup nd hnd).mpr fun j => by rw [← hm2 j, decide_eq_true_eq]).length_eq
    rw [List.length_map, Array.length_toList] at e1
    exact e1
  have I2 : Inv X pins σ H1 { s1 with heap := h', toks := tk } := I1.kept k
  refine call_len_set ho hex hdt hf (by rw [hlen]; omega) ⟨.int ns.length, H1, I2.tok _, ⟨_, by rw [hlen]⟩, q1⟩
end
section
variable {K : PySem.W.Frag} [HasTabs K] {E : XK} {te ta tb : TE} {tas : TA} {ρ : Rh} {P : EPost}
theorem ev_lenSetT (h : EvP K E te ρ (bnd (fun x ρ1 => ∃ ns : List Int, x = .d (.tup (ns.map Dat.int)) ∧ ns.length ≤ 1000 ∧ ns.Nodup ∧ P (.ok (.d (.int ns.length))) ρ1) P)) : EvP K E (tLenSetT K te) ρ P := by
  intro D H T σ Q s k xo
  refine h D H T σ _ s (fun v x ρ1 D1 H1 q1 s1 => ?_) (xo.sub0 fun _ _ _ z => z)
  obtain ⟨ns, rfl, hl, hn, hp⟩ := q1
  have hx := s1.tm (v, _) List.mem_cons_self
  cases hx with
  | d hx =>
    cases hx with
    | tup g1 g2 =>
      cases g2.ints
      exact ⟨_, ns, rfl, st_of (s1.ex _ _ g1), hl, hn, k _ _ _ _ _ hp (s1.pop.push (.int _))⟩
theorem ev_sortedI (h : AvP K E tas ρ (fun os ρ1 => ∃ ns : List Int, os = [.d (.lst (ns.map Dat.int))] ∧ ∀ (ns' : List Int), ns'.Perm ns → ns'.Pairwise (· ≤ ·) → P (.ok (.d (.lst (ns'.map Dat.int)))) ρ1) P) : EvP K E (tCB (rSortedI K) tas) ρ P := by
  intro D H T σ Q s k xo
  refine h D H T σ _ s (fun vs os ρ1 D1 H1 q1 e1 s1 => ?_) (xo.sub0 fun _ _ _ z => z)
  obtain ⟨ns, rfl, hp⟩ := q1
  match vs, e1 with
  | [v], _ =>
    have hx := s1.tm (v, _) List.mem_cons_self
    cases hx with
    | d hx =>
      cases hx with
      | lst g1 g2 =>
        cases g2.ints
        have s2 : Sd K D1 H1 T σ ρ1 := Sd.pop s1
        refine ⟨_, ns, rfl, SqL.of (s1.ex _ _ g1), fun ns' p hpm hso hn => ?_⟩
        exact k _ _ _ _ _ (hp ns' hpm hso) ((s2.new hn _).push (.lst upd_same (DenAll.ofInts ns')))
/-- xs[:j] of a tuple -/
theorem ev_slTu (h : EvP K E te ρ (bnd (fun x ρ1 => ∃ ds, x = .d (.tup ds) ∧ EvP K E ta ρ1 (bnd (fun y ρ2 => ∃ j, y = .d (.int j) ∧ P (.ok (.d (.tup (cutD ds none (some j))))) ρ2) P)) P)) : EvP K E (tSl (rSlA K) te tNoPart (tPart ta)) ρ P := by
  intro D H T σ Q s k xo
  refine h D H T σ _ s (fun v x ρ1 D1 H1 q1 s1 => ?_) (xo.sub0 fun _ _ _ z => z)
  obtain ⟨ds, rfl, q1⟩ := q1
  refine q1 D1 H1 _ σ _ s1 (fun w y ρ2 D2 H2 q2 s2 => ?_) (xo.sub1 fun _ _ _ z => z)
  obtain ⟨j, rfl, hp⟩ := q2
  have hx := s2.tm (v, _) (List.mem_cons_of_mem _ List.mem_cons_self)
  have hy := s2.tm (w, _) List.mem_cons_self
  cases hy with
  | d hy =>
    cases hy
    cases hx with
    | d hx =>
      cases hx with
      | tup g1 g2 =>
        have s3 : Sd K D2 H2 T σ ρ2 := s2.pop.pop
        refine ⟨j, rfl, _, _, rfl, st_of (s2.ex _ _ g1), fun hw => ?_, fun _ l hl => k _ _ _ _ _ hp ((s3.new hl _).push (.tup upd_same ((cut_den g2 none (some j)).mono (Ex.new (s3.dnone hl)))))⟩
        have e : cutD ds none (some j) = ds := by
          unfold cutD
          rw [← g2.length, hw.2]
          show (ds.drop 0).take _ = ds
          rw [List.drop_zero, List.take_of_length_le]
          show ds.length ≤ _ - 0
          rw [← g2.length]
          exact Nat.le_refl _
        exact k _ _ _ _ _ (by rw [e] at hp; exact hp) (s3.push (.tup g1 g2))
/-- i in t, i not in t: a number, a tuple of numbers -/
theorem inV_int (i : Int) : ∀ ns : List Int, inV (.int i) (ns.map V.int) = decide (i ∈ ns)
  | [] => rfl
  | n :: ns => by
    have ih := inV_int i ns
    unfold inV at ih ⊢
    rw [List.map_cons, List.any_cons, ih]
    show (n == i || _) = _
    by_cases e : n = i
    · subst e; simp
    · have e2 : ¬ i = n := fun z => e z.symm
      simp [e, e2]
theorem ev_inT {neg : Bool} (h : EvP K E ta ρ (bnd (fun x ρ1 => EvP K E tb ρ1 (bnd (fun y ρ2 => ∃ (i : Int) (ns : List Int), x = .d (.int i) ∧ y = .d (.tup (ns.map Dat.int)) ∧ P (.ok (.d (.bl (if neg then !decide (i ∈ ns) else decide (i ∈ ns))))) ρ2) P)) P)) : EvP K E (tOp (rIn K neg) ta tb) ρ P := by
  intro D H T σ Q s k xo
  refine h D H T σ _ s (fun v x ρ1 D1 H1 q1 s1 => ?_) (xo.sub0 fun _ _ _ z => z)
  refine q1 D1 H1 _ σ _ s1 (fun w y ρ2 D2 H2 q2 s2 => ?_) (xo.sub1 fun _ _ _ z => z)
  obtain ⟨i, ns, rfl, rfl, hp⟩ := q2
  have hx := s2.tm (v, _) (List.mem_cons_of_mem _ List.mem_cons_self)
  have hy := s2.tm (w, _) List.mem_cons_self
  cases hx with
  | d hx =>
    cases hx
    cases hy with
    | d hy =>
      cases hy with
      | tup g1 g2 =>
        cases g2.ints
        have s3 : Sd K D2 H2 T σ ρ2 := s2.pop.pop
        refine ⟨_, _, rfl, .inr (st_of (s2.ex _ _ g1)), rfl, ?_, ?_⟩
        · rw [List.all_eq_true]
          intro z hz
          obtain ⟨n, _, rfl⟩ := List.mem_map.mp hz
          rfl
        · rw [inV_int]
          exact k _ _ _ _ _ hp (s3.push (.bl _))
end
/-! ### two defaults behind -/
section
variable (P : Program) (w : World) (K : PySem.W.Frag) [HasTabs K] (mg : Str → Option Value) (base : Heap)
structure DfnT (x qual : Str) (st : Stmt) (ps : List Str) (d1 d2 : V) : Prop where
  ex : ∃ (f : Addr) (fd : FuncData), mg x = some (.ref f) ∧ PySem.W.keepIn K (.ref f) = true ∧ FunD K x qual (defArgs st) (defBody st) (defScope st) [d1, d2] [] f fd ∧ Binds K fd ps [] ∧ ∃ us, Vals [d1, d2] us ∧ Binds K fd ps us
/-- called with both defaults -/
structure OkT (k : Nat) (x : Str) (ps : List Str) (R : Pr) (d1 d2 : V) : Prop where
  ex : ∃ (f : Addr) (fd : FuncData) (us : List Value), mg x = some (.ref f) ∧ PySem.W.keepIn K (.ref f) = true ∧ Vals [d1, d2] us ∧ Binds K fd ps us ∧ FnOk P w K mg base CX0 k f fd ps (spOf K R)
end
section
variable {P : Program} {w : World} {K : PySem.W.Frag} [HasTabs K] {mg : Str → Option Value} {base h : Heap}
theorem DfnT.ok {x qual : Str} {st : Stmt} {N ps : List Str} {k : Nat} {R : Pr} {d1 d2 : V} (F : DfnT K mg x qual st ps d1 d2) (S : FnScope N ps (defScope st)) (hl : ps.length ≤ N.length) (len : ∀ os Pp, R os Pp → os.length = ps.length)
    (noex : ∀ os Pp, R os Pp → R os (fun r us => (match r with | .ok _ => True | .ex _ _ => False) ∧ Pp r us))
    (hbody : ∀ (f : Addr) (cdv : Value) (A : Around) (outer : List Env) (s : Shared) (H : Hp) (E : XK), Room k (A.deeper (PyProof.Rows.envOfC qual (defScope st) s.heap.objs.size f cdv)) →
      ∃ t, PSs (cxOf CX0 P w K mg base N qual (defScope st) f cdv A outer s H E).nox (defBody st) t ∧ ∀ os Pp, R os Pp → SvP K E0 t (os.map some ++ List.replicate (N.length - os.length) none) (retS os Pp)) :
    Ok P w K mg base (k + 1) x ps R ∧ OkT P w K mg base (k + 1) x ps R d1 d2 := by
  obtain ⟨f, fd, h1, h2, h3, h4, us, h5, h6⟩ := F.ex
  have G := def_okD h3 S hl len (hbody f) noex
  exact ⟨⟨f, fd, h1, h2, h4, G⟩, ⟨f, fd, us, h1, h2, h5, h6, G⟩⟩
abbrev BindT (x qual : Str) (st : Stmt) (ps : List Str) (j : Nat) : Prop := ∀ (T : Addr) (kV doc pm : Value) (an : Option Addr) (cdv ct : Value) (us its : List Value), us.length + (2 - j) = ps.length → its.length = 2 →
  ∃ k, bindArgs (PySem.W.fnOf x qual (defArgs st) (defBody st) (defScope st) (.ref T) kV doc pm an cdv ct) ⟨us, []⟩ = seqItems? (.ref T) >>= k ∧ k (some its.toArray) = pure (ps.zip (us ++ its.drop j))
theorem dfnT_mk {x qual : Str} {st : Stmt} {ps : List Str} {f T : Addr} {oc kV doc pm cdv ct u1 u2 tc : Value} {od an td : Option Addr} {osl tsl : Array (Option Value)} {n : Nat} {d1 d2 : V} (X : K.In h) (G : h.Ns mainGlobals mg) (a : PySem.W.nsIn K mainGlobals x = some (some (.ref f)))
    (l : K.lookup f = some ⟨oc, od, .func (PySem.W.fnOf x qual (defArgs st) (defBody st) (defScope st) (.ref T) kV doc pm an cdv ct), osl⟩) (lt : K.lookup T = some ⟨tc, td, .seq #[u1, u2] n, tsl⟩) (r1 : RelV d1 u1) (r2 : RelV d2 u2) (c : PySem.W.codeIn K cdv qual = true) (k : PySem.W.keepIn K (.ref f) = true)
    (hp : 2 ≤ ps.length) (b : BindT x qual st ps 2) (bf : BindT x qual st ps 0) : DfnT K mg x qual st ps d1 d2 := by
  have F : FunD K x qual (defArgs st) (defBody st) (defScope st) [d1, d2] [] f (PySem.W.fnOf x qual (defArgs st) (defBody st) (defScope st) (.ref T) kV doc pm an cdv ct) :=
    ⟨⟨oc, od, .ref T, kV, doc, pm, an, cdv, ct, osl, rfl, l, c, .inr ⟨by simp, T, _, [u1, u2], n, rfl, lt, rfl, .cons r1 (.cons r2 .nil)⟩, .inl rfl⟩, k⟩
  refine ⟨f, _, PySem.W.mg_of X G a, k, F, ?_, ?_⟩
  · obtain ⟨ds, r, z⟩ := L2.FunD.binds1 (ps := ps) F ps.length 2 (by simp) (by simp) fun T kV doc pm an cdv ct us its l1 l2 => b T kV doc pm an cdv ct us its (by omega) l2
    cases r
    exact z
  · obtain ⟨ds, r, z⟩ := L2.FunD.binds1 (ps := ps) F (ps.length - 2) 0 (by simp) (by simp; omega) fun T kV doc pm an cdv ct us its l1 l2 => bf T kV doc pm an cdv ct us its (by omega) l2
    exact ⟨ds, r, z⟩
end
section
variable {X : Cx} {k : Nat} {x : Str} {ps : List Str} {R : Pr} {p pos : Pos} {e : Expr} {es : List Expr} {t : TA} {d1 d2 : V}
theorem pe_fnT {P : Program} {w : World} {K : PySem.W.Frag} [HasTabs K] {mg : Str → Option Value} {base : Heap} (O : OkT P w K mg base k x ps R d1 d2) (hX : X.prog = P ∧ X.w = w ∧ X.K = K ∧ X.mg = mg ∧ X.base = base) (hr : Room k X.A) (hg : Gl X x) (ha : PA X (e :: es) t) (hdb : (x == ("__debug__" : Str)) = false := by decide)
    (he : starEach (e :: es) X.env = (false, eval e X.env) :: starEach es X.env := by rfl) (hpl : (backTo pos (starEach es X.env)).any (·.1) = false := by rfl) : PE X (.Call (.Name x p) (e :: es) [] pos) (tCall (spOf K R) [d1, d2] E0 t) := by
  obtain ⟨f, fd, us, hm, hk, hv, hb, F⟩ := O.ex
  obtain ⟨rfl, rfl, rfl, rfl, rfl⟩ := hX
  exact pe_call F hr hg hm hk hb hv pass0 ha hdb he hpl
end
end DL

/-! ### Mh. classes made with a default behind -/
namespace DL
open PySem L2 Evl PySem.Spec PyProof.Rows
section
variable (P : Program) (w : World) (K : PySem.W.Frag) [HasTabs K] (mg : Str → Option Value) (base : Heap)
structure CfnE (x qual : Str) (st : Stmt) (ps : List Str) (C : Addr) (dv : V) : Prop where
  ex : ∃ (f : Addr) (fd : FuncData), mg x = some (.ref C) ∧ Mk K C f ∧ FunD K "__init__" qual (defArgs st) (defBody st) (defScope st) [dv] [] f fd ∧ Binds K fd ps [] ∧ ∃ u, Vals [dv] [u] ∧ Binds K fd ps [u]
/-- made with its default -/
structure OkCF (k : Nat) (x : Str) (ps : List Str) (C : Addr) (R : Pr) (dv : V) : Prop where
  ex : ∃ (f : Addr) (fd : FuncData) (u : Value), mg x = some (.ref C) ∧ Mk K C f ∧ Vals [dv] [u] ∧ Binds K fd ps [u] ∧ FnOk P w K mg base CX0 k f fd ps (spOf K R)
end
section
variable {P : Program} {w : World} {K : PySem.W.Frag} [HasTabs K] {mg : Str → Option Value} {base h : Heap}
theorem CfnE.ok {x qual : Str} {st : Stmt} {N ps : List Str} {k : Nat} {R : Pr} {C : Addr} {dv : V} (F : CfnE K mg x qual st ps C dv) (S : FnScope N ps (defScope st)) (hl : ps.length ≤ N.length) (len : ∀ os Pp, R os Pp → os.length = ps.length)
    (noex : ∀ os Pp, R os Pp → R os (fun r us => (match r with | .ok _ => True | .ex _ _ => False) ∧ Pp r us))
    (hbody : ∀ (f : Addr) (cdv : Value) (A : Around) (outer : List Env) (s : Shared) (H : Hp) (E : XK), Room k (A.deeper (PyProof.Rows.envOfC qual (defScope st) s.heap.objs.size f cdv)) →
      ∃ t, PSs (cxOf CX0 P w K mg base N qual (defScope st) f cdv A outer s H E).nox (defBody st) t ∧ ∀ os Pp, R os Pp → SvP K E0 t (os.map some ++ List.replicate (N.length - os.length) none) (retS os Pp)) :
    OkC P w K mg base (k + 1) x ps C R ∧ OkCF P w K mg base (k + 1) x ps C R dv := by
  obtain ⟨f, fd, h1, h2, h3, h4, u, h5, h6⟩ := F.ex
  have G := def_okD h3 S hl len (hbody f) noex
  exact ⟨⟨f, fd, h1, h2, h4, G⟩, ⟨f, fd, u, h1, h2, h5, h6, G⟩⟩
theorem cfnE_mk {x qual : Str} {st : Stmt} {ps : List Str} {f C T : Addr} {oc kV doc pm cdv ct u tc : Value} {od an td : Option Addr} {osl tsl : Array (Option Value)} {n : Nat} {dv : V} (X : K.In h) (G : h.Ns mainGlobals mg) (a : PySem.W.nsIn K mainGlobals x = some (some (.ref C))) (m : Mk K C f)
    (l : K.lookup f = some ⟨oc, od, .func (PySem.W.fnOf "__init__" qual (defArgs st) (defBody st) (defScope st) (.ref T) kV doc pm an cdv ct), osl⟩) (lt : K.lookup T = some ⟨tc, td, .seq #[u] n, tsl⟩) (r : RelV dv u) (c : PySem.W.codeIn K cdv qual = true) (k : PySem.W.keepIn K (.ref f) = true)
    (hp : 1 ≤ ps.length) (b : BindD "__init__" qual st ps) (bf : BindF "__init__" qual st ps) : CfnE K mg x qual st ps C dv := by
  have F := funD_of l lt r c k
  refine ⟨f, _, PySem.W.mg_of X G a, m, F, FunD.all F b, ?_⟩
  obtain ⟨ds, r, z⟩ := L2.FunD.binds1 (ps := ps) F (ps.length - 1) 0 (by simp) (by simp; omega) fun T kV doc pm an cdv ct us its l1 l2 => bf T kV doc pm an cdv ct us its (by omega) l2
  obtain ⟨v, rfl, _⟩ := r.one
  exact ⟨v, r, z⟩
end
section
variable {X : Cx} {k : Nat} {x : Str} {ps : List Str} {R : Pr} {p pos : Pos} {e : Expr} {es : List Expr} {t : TA} {C : Addr} {dv : V}
theorem pe_clsF {P : Program} {w : World} {K : PySem.W.Frag} [HasTabs K] {mg : Str → Option Value} {base : Heap} (O : OkCF P w K mg base k x ps C R dv) (hX : X.prog = P ∧ X.w = w ∧ X.K = K ∧ X.mg = mg ∧ X.base = base) (hr : Room (k + 1) X.A) (hg : Gl X x) (ha : PA X (e :: es) t) (hdb : (x == ("__debug__" : Str)) = false := by decide)
    (he : starEach (e :: es) X.env = (false, eval e X.env) :: starEach es X.env := by rfl) (hpl : (backTo pos (starEach es X.env)).any (·.1) = false := by rfl) : PE X (.Call (.Name x p) (e :: es) [] pos) (tMake C (spOf K R) [dv] E0 t) := by
  obtain ⟨f, fd, u, hm, hk, hv, hb, F⟩ := O.ex
  obtain ⟨rfl, rfl, rfl, rfl, rfl⟩ := hX
  exact pe_make hk F hr hg hm hb hv pass0 ha hdb he hpl
end
section
variable {K : PySem.W.Frag} [HasTabs K] {E : XK} {ρ : Rh} {P : EPost} {tas : TA} {Pa : List Ow → Rh → Prop}
theorem av_behind {d : Dat} (hd : d.atm = true) (h : AvP K E tas ρ (fun os ρ1 => Pa (os ++ [.d d]) ρ1) P) : AvP K E (fun σ H Q => tas σ H fun vs H1 => Q (vs ++ [d.val]) H1) ρ Pa P := by
  intro D H T σ Q s k xo
  refine h D H T σ _ s (fun vs os ρ' D' H' q e s1 => k (vs ++ [d.val]) _ ρ' D' H' q (by simp [e]) ?_) xo
  rw [zip_snoc e]
  have s2 := s1.push (Den.at_v (K := K) (D := D') hd)
  refine s2.perm ?_
  show ((d.val, Ow.d d) :: (vs.zip os ++ T)).Perm ((vs.zip os ++ [(d.val, Ow.d d)]) ++ T)
  rw [List.append_assoc]
  exact List.perm_middle.symm
/-- C(..), a default behind -/
theorem ev_makeF {C : Addr} {R : Pr} (d : Dat) (hd : d.atm = true) (h : AvP K E tas ρ (fun os ρ1 => ∀ x, R (.o x C [] :: (os ++ [.d d])) (fun r os' => match r with
    | .ok o => o = .d .non ∧ ∃ fs os2, os' = .o x C fs :: os2 ∧ P (.ok (.d (.obj C fs))) (bks os2 ρ1)
    | .ex C' fs => ∃ o2 os2, os' = o2 :: os2 ∧ P (.ex C' fs) (bks os2 ρ1))) P) (mono : ∀ os (A B : Re → List Ow → Prop), (∀ r os, A r os → B r os) → R os A → R os B) : EvP K E (tMake C (spOf K R) [d.val] E tas) ρ P := by
  have g := ev_make (K := K) (E := E) (ρ := ρ) (P := P) (C := C) (R := R) (av_behind (Pa := fun os ρ1 => ∀ x, R (.o x C [] :: os) (fun r os' => match r with
    | .ok o => o = .d .non ∧ ∃ fs os2, os' = .o x C fs :: os2 ∧ P (.ok (.d (.obj C fs))) (bks os2 ρ1)
    | .ex C' fs => ∃ o2 os2, os' = o2 :: os2 ∧ P (.ex C' fs) (bks os2 ρ1))) hd h) mono
  intro D H T σ Q s k xo
  have z := g D H T σ Q s k xo
  unfold tMake at z ⊢
  simpa only [List.append_nil] using z
end
end DL

/-! ### Mi. errors by their classes -/
namespace DL
open PySem L2 Evl PySem.Spec PyProof.Rows
/-- an error of the text: its class, its fields, its __init__ -/
structure DfnE (K : PySem.W.Frag) (mg : Str → Option Value) (x qual : Str) (st : Stmt) (C : Addr) (fs : List Str) : Prop where
  mgx : mg x = some (.ref C)
  ox : OexC K C
  no : ∀ f ∈ fs, PySem.W.findIn K (.ref C) f = some none
  ini : ∃ (fI : Addr) (fd : FuncData), PySem.W.findIn K (.ref C) "__init__" = some (some (.ref fI)) ∧ PySem.W.typeIn K (.ref fI) = some (.type "function") ∧ Binds K fd ("self" :: fs) [] ∧ Fun K "__init__" qual st fI fd
section
variable {P : Program} {w : World} {K : PySem.W.Frag} {mg : Str → Option Value} {base h : Heap} {x qual a b : Str} {st : Stmt} {C : Addr} {p1 p2 p3 p4 q1 q2 q3 q4 : Pos}
theorem DfnE.err1 (F : DfnE K mg x qual st C [a]) (hst : defBody st = [.Assign [.Attribute (.Name "self" p1) a p2] (.Name a p3) p4]) (S : FnScope ["self", a] ["self", a] (defScope st)) (v0 : Vis (defScope st) "self") (v1 : Vis (defScope st) a) (d1 : (a == ("__debug__" : Str)) = false) (d2 : (a == ("__classdict__" : Str)) = false) : ErrC P w K mg base x C [a] := by
  obtain ⟨fI, fd, h1, h2, h3, h4⟩ := F.ini
  exact ⟨F.mgx, F.ox, F.no, ⟨fI, fd, _, h1, h2, h3, ini1 h4 hst S v0 v1 d1 d2⟩, by simp⟩
theorem DfnE.err2 (F : DfnE K mg x qual st C [a, b]) (hst : defBody st = [.Assign [.Attribute (.Name "self" p1) a p2] (.Name a p3) p4, .Assign [.Attribute (.Name "self" q1) b q2] (.Name b q3) q4]) (S : FnScope ["self", a, b] ["self", a, b] (defScope st)) (v0 : Vis (defScope st) "self") (v1 : Vis (defScope st) a) (v2 : Vis (defScope st) b) (d1 : (a == ("__debug__" : Str)) = false) (d2 : (a == ("__classdict__" : Str)) = false) (e1 : (b == ("__debug__" : Str)) = false) (e2 : (b == ("__classdict__" : Str)) = false) : ErrC P w K mg base x C [a, b] := by
  obtain ⟨fI, fd, h1, h2, h3, h4⟩ := F.ini
  exact ⟨F.mgx, F.ox, F.no, ⟨fI, fd, _, h1, h2, h3, ini2 h4 hst S v0 v1 v2 d1 d2 e1 e2⟩, by simp⟩
theorem dfnE_mk {fs : List Str} {f : Addr} {oc kV doc pm cdv ct : Value} {od an : Option Addr} {osl : Array (Option Value)} (X : K.In h) (G : h.Ns mainGlobals mg) (z : PySem.W.nsIn K mainGlobals x = some (some (.ref C)))
    {nm q2 : Str} {N : Addr} {bs bm sub : List Value} {sn : List Str} {ab : Bool} {col : Option Bool} {dd : Option Addr} {k0 k1 k2 k3 k5 : Option Value} (cls : K.lookup C = some ⟨.type "type", dd, .cls ⟨nm, bs, .ref C :: bm, N, q2, true, sn, sub, ab, col, false⟩, #[k0, k1, k2, k3, some (.builtin "ValueError.__new__"), k5]⟩) (cls2 : PySem.HandSPX.refsVE bm = true)
    (sa : PySem.W.findIn K (.ref C) "__setattr__" = some (some (.builtin "object.__setattr__"))) (exC : PySem.W.subIn K (.ref C) (.type "BaseException") = some true) (tyC : PySem.W.typeIn K (.ref C) = some (.type "type")) (kC : PySem.W.keepIn K (.ref C) = true)
    (no : ∀ f ∈ fs, PySem.W.findIn K (.ref C) f = some none) (fi : PySem.W.findIn K (.ref C) "__init__" = some (some (.ref f))) (ti : PySem.W.typeIn K (.ref f) = some (.type "function"))
    (l : K.lookup f = some ⟨oc, od, .func (PySem.W.fnOf "__init__" qual (defArgs st) (defBody st) (defScope st) .none kV doc pm an cdv ct), osl⟩) (c : PySem.W.codeIn K cdv qual = true) (k : PySem.W.keepIn K (.ref f) = true) (b : BindN "__init__" qual st ("self" :: fs)) : DfnE K mg x qual st C fs :=
  ⟨PySem.W.mg_of X G z, ⟨⟨nm, q2, N, bs, bm, sn, sub, ab, col, dd, k0, k1, k2, k3, k5, cls, cls2⟩, sa, exC, tyC, kC⟩, no, ⟨f, _, fi, ti, (fun_mk l c k).binds b, fun_mk l c k⟩⟩
theorem dfnC_mk {ps : List Str} {f cc : Addr} {oc kV doc pm ct : Value} {od an : Option Addr} {osl : Array (Option Value)} (X : K.In h) (G : h.Ns mainGlobals mg) (z : PySem.W.nsIn K mainGlobals x = some (some (.ref f)))
    (l : K.lookup f = some ⟨oc, od, .func (PySem.W.fnOf x qual (defArgs st) (defBody st) (defScope st) .none kV doc pm an (.ref cc) ct), osl⟩) (c : PySem.W.codeIn K (.ref cc) qual = true) (k : PySem.W.keepIn K (.ref f) = true) (b : BindN x qual st ps) : DfnC K mg x qual st ps cc :=
  ⟨f, _, PySem.W.mg_of X G z, k, (fun_mk l c k).binds b, fun_mk l c k, rfl⟩
end
end DL

/-! ### Mj. fields as targets; whether a caught error is of a class; a def that catches by one clause -/
namespace DL
open PySem L2 Evl PySem.Spec PyProof.Rows
/-- e.f as a target -/
def gFld (K : PySem.W.Frag) (ta : TE) (f : Str) : TG := fun v σ H Q => ta σ H fun x H2 => ∃ a C dx fs, x = .ref a ∧ H2 a = some (.ins C dx fs) ∧ Cls K C ∧ NoAttr K C f ∧ fs.length < 1000 ∧ Q σ (upd H2 a (.ins C dx (putF f v fs)))
theorem pg_fldK {X : Cx} {K : PySem.W.Frag} {o : Expr} {f : Str} {ta : TE} {pos : Pos} (hK : X.K = K) (ha : PE X o ta) : PG X (.Attribute o f pos) (gFld K ta f) := by
  subst hK
  refine ⟨fun pins s σ H v u Q I r h => PySem.W.kas_attr (thn (ha.run pins s σ H _ I h) fun ov s2 ⟨x, H2, I2, rx, a, C, dx, fs, ex, ea, c, n, l, q2⟩ => ?_)⟩
  subst ex
  obtain rfl : ov = Value.ref a := rx
  exact setattr_ok I2 ea c n l r fun s3 I3 => ⟨σ, _, I3, q2⟩
section
variable {K : PySem.W.Frag} [HasTabs K] {ρ : Rh} {i : Nat} {a : Addr}
theorem gv_fld {f : Str} {d : Dat} {Pr : Rh → Prop} {C : Addr} {gs : List (Str × Dat)} (hi : ρ[i]? = some (some (.o a C gs))) (hC : Cls K C) (hn : NoAttr K C f) (hl : gs.length < 1000) (q : Pr (ρ.set i (some (.o a C (putD f d gs))))) : GvP K (gFld K (tVar i) f) [] ρ d Pr := by
  intro D H T σ v Q s1 k
  have hv := s1.tm (v, _) List.mem_cons_self
  cases hv with
  | d hv =>
    obtain ⟨hs, dx, fs, ha, hf⟩ := s1.geto hi
    refine ⟨.ref a, hs, a, C, dx, fs, rfl, ha, hC, hn, by rw [hf.len]; exact hl, k _ _ D _ q ?_ fun _ _ => rfl⟩
    have s2 := s1.pop
    have hlen : i < ρ.length := (List.getElem?_eq_some_iff.mp hi).1
    have fa : D a = none := s2.out a (List.mem_append_right _ ((fpR_none hi).mem_iff.mpr (List.mem_append_left _ List.mem_cons_self)))
    have pm : (fpT T ++ fpR (ρ.set i (some (.o a C (putD f d gs))))).Perm (fpT T ++ fpR ρ) := List.Perm.append_left _ ((fpR_set _ hlen).trans (fpR_none hi).symm)
    have nT : ∀ b ∈ fpT T ++ fpR (ρ.set i none), b ≠ a := fun b hb z => by
      have q2 : (a :: (fpT T ++ fpR (ρ.set i none))).Nodup := List.perm_middle.nodup_iff.mp (((fpR_none hi).append_left _).nodup_iff.mp s2.nd)
      rw [List.nodup_cons] at q2
      exact q2.1 (by rw [← z]; exact hb)
    have sl1 := ((s2.sl.none i).keep (H' := upd H a (.ins C dx (putF f v fs))) (Ex.refl D) fun b hb u hu => by rw [upd_ne (nT b (List.mem_append_right _ hb))]; exact hu).put hs (o := .o a C (putD f d gs)) (.o upd_same (hf.put hv))
    rw [List.set_set] at sl1
    exact .mk' (fun b u hb => by rw [upd_ne (fun z => by rw [z, fa] at hb; cases hb)]; exact s2.ex b u hb) (fun p hp => (s2.tm p hp).keep (Ex.refl D) fun b hb u hu => by rw [upd_ne (nT b (List.mem_append_left _ (mem_fpT hp hb)))]; exact hu) sl1 pm s2.nd s2.out
end
/-! whether a caught error, with its fields, is of a class -/
structure ExcD (K : PySem.W.Frag) (C : Addr) : Prop where
  cl : (PySem.W.clsIn K C).isSome = true
  ga : PySem.W.findIn K (.ref C) "__getattribute__" = some (some (.builtin "BaseException.__getattribute__"))
  gg : PySem.W.findIn K (.ref C) "__getattr__" = some none
  su : PySem.W.subIn K (.ref C) (.type "BaseException") = some true
  ca : PySem.W.findIn K (.ref C) "__class__" = some (some (.builtin "object.__class__"))
  sp : PySem.W.specialIn K (.builtin "object.__class__") "__get__" = some (some (.builtin "getset_descriptor.__get__"))
  tk : PySem.W.takesIn K (.builtin "object.__class__") = some true
  mr : PySem.W.mroIn K C (.type "object") = some true
def rIsX (K : PySem.W.Frag) (a : Addr) (cls : Value) (d : Option Addr) : List V → Hp → VK → Prop := fun xs H Q => ∃ (C dd : Addr) (fs : List (Str × V)) (c : V) (u : Value) (b : Bool), xs = [.ref a, c] ∧ cls = .ref C ∧ d = some dd ∧ H dd = some (.xd fs) ∧ ClsV c u ∧ ExcD K C ∧ PySem.W.kitOne K (.ref C) u = some b ∧ Q (.bl b) H
theorem call_isX {X : Cx} {a : Addr} {oe : Obj} {cls : Value} {d : Option Addr} {pn : List (Addr × Obj)} (hz : Zc cls d oe) (hf : ∃ vs, oe.data = .fields vs) : CallR (X.suite a ((a, oe) :: pn)) (.builtin "isinstance") (rIsX X.K a cls d) := by
  intro pins s σ H xs us Q I r h
  obtain ⟨C, dd, fs, c, u, b, rfl, rfl, rfl, hd, hc, ed, e, q⟩ := h
  cases r with
  | cons rx rr =>
    cases rr with
    | cons rt rr =>
      cases rr
      cases rx
      have eu := ClsV.eq hc rt
      subst eu
      obtain ⟨hget, _⟩ := I.pin (a, oe) (List.mem_append.mpr (.inl List.mem_cons_self))
      obtain ⟨vs, hv⟩ := hf
      have hx : ObjOk X.prog X.w H s.heap dd (.xd fs) := I.hok dd _ hd
      obtain ⟨mA, hns, _⟩ := hx
      obtain ⟨od, ho, _⟩ := lookIn_ns hns
      have J : PySem.W.InstAt s.heap a oe C (some od) := ⟨hget, hz.1, by unfold PySem.W.notCls; rw [hv] <;> rfl, by rw [hz.2]; exact ho⟩
      exact PySem.W.kia_one (PySem.W.kitx_exc ed.cl ed.ga ed.gg ed.su ed.ca ed.sp ed.tk ed.mr) I.kIn J e (fun z => nomatch z) fun tk => ⟨.bl b, H, I.kept (t' := tk) fun _ _ z => z, rfl, q⟩
/-! try: a() / except x as n: return e / return None -/
def TTone (K : PySem.W.Frag) (C : Addr) (te : Addr → Value → Option Addr → TE) : (XK → Hp → VK → Prop) → Hp → VK → Prop := fun tl H Q =>
  tl (fun cls d H' => ∀ σ : L2.St, σ.length = 2 → ∃ y, PySem.W.exmOne K cls (.ref C) = some y ∧ (y = true → ∀ a, H' a = none → te a cls d (σ.set 1 (some (.ref a))) H' Q) ∧ (y = false → False)) H (fun _ H' => Q .non H')
theorem one_gives {X : Cx} {x a n q e : Str} {sg : Scope} {g C : Addr} {cdg : Value} {p1 p2 p3 p4 p5 p6 p7 p8 p9 : Pos} {k0 : Nat} {ex : Expr} {te : Addr → Value → Option Addr → TE} (na : a ≠ n) (loc : sg.names.lookup n = some .local) (hge : sg.names.lookup e = some .globalImplicit) (hme : X.mg e = some (.ref C)) (hde : (e == ("__debug__" : Str)) = false)
    (hex : ∀ (s : Shared) (H : Hp) (b : Addr) (oe : Obj) (cls : Value) (d : Option Addr) (pn : List (Addr × Obj)), Zc cls d oe → (∃ vs, oe.data = .fields vs) → PE ((cxOf C8.CX0 X.prog X.w X.K X.mg X.base [a, n] x sg g cdg X.A X.stack s H C8.E0).nox.suite b ((b, oe) :: pn)) ex (te b cls d)) :
    LamX.GivesTo X [a, n] x sg g cdg [.Try [.Expr (.Call (.Name a p1) [] [] p2) p3] [.ExceptHandler (some (.Name e p4)) (some n) [.Return (some ex) p5] p6] [] [] p7, .Return (some (.Constant .none k0 p8)) p9] a q (TTone X.K C te) := by
  intro f c' s H Q tl act hc h
  have hgl : Gl (cxOf C8.CX0 X.prog X.w X.K X.mg X.base [a, n] x sg g cdg X.A X.stack s H C8.E0).nox e := hge
  refine ⟨_, pss_cons (ps_tryAll (X := (cxOf C8.CX0 X.prog X.w X.K X.mg X.base [a, n] x sg g cdg X.A X.stack s H C8.E0).nox) (n := n) (i := 1) (l := [(.ref C, fun b cls d => tRet (te b cls d))])
      (tb := fun W D σ H => ∃ Ech : XK, (∀ cls d σ' H', Ech cls d H' → (σ'.length = 2 → W cls d σ' H')) ∧ σ[0]? = some (some (.ref f)) ∧ H c' = some (LamX.CodeO c' q) ∧ tl Ech H (fun _ H' => D.nx σ H'))
      rfl rfl (by show [a, n].Nodup; simp [na]) rfl loc LamX.takes0 (fun W pn xe tk _ => ?_) (.cons ⟨hgl, hde, .inl hme⟩ (fun b oe cls d pn hz hf => pss_one (ps_ret (hex s H b oe cls d pn hz hf))) .nil)) (pss_one (ps_ret pe_non)), ?_⟩
  · refine ⟨fun pn2 s' σ H' D I z => ?_⟩
    obtain ⟨Ech, hW, h1, h2, h3⟩ := z
    have hp := act _ pn xe Ech p1 p2 (takes_len tk) hW
    exact (pss_one (ps_expr (pos := p3) hp)).run pn2 s' σ H' D I ⟨h1, h2, h3⟩
  · refine ⟨_, fun cls d σ' H' z hl => ?_, rfl, hc, h⟩
    obtain ⟨y, e1, e2, e3⟩ := z σ' hl
    exact ⟨y, e1, fun hy b hb => e2 hy b hb, fun hy => (e3 hy).elim⟩
section
variable {K : PySem.W.Frag} [HasTabs K] {E : XK} {t : XK → TE} {ρ : Rh} {P : EPost} {C : Addr} {te : Addr → Value → Option Addr → TE}
theorem ev_one (hm : PySem.W.exmOne K (.ref C) (.ref C) = some true) (h : ∀ E', EvP K E' (t E') ρ (fun r ρ1 => match r with
    | .ok o => P (.ok (.d .non)) (bk o ρ1)
    | .ex C' fs => C' = C ∧ ∃ x, (∀ (D H : Hp) (T : Tm) (σ σ1 : L2.St) (a d : Addr) (Q : VK), Sd K D H T σ ρ1 → XAt K D H d fs → σ1[1]? = some (some (.ref a)) → (∀ v D' H', Sd K D' H' ((v, .d x) :: T) σ ρ1 → Q v H') → te a (.ref C) (some d) σ1 H Q) ∧ P (.ok (.d x)) ρ1)) : EvP K E (LamX.tLam (HasTabs.tt K) (TTone K C te) t) ρ P := by
  intro D H T σ Q s k xo
  refine ⟨s.tb.ext s.ex, fun H1 n1 t1 => ?_⟩
  obtain ⟨D1, s1⟩ := s.tabs n1 t1
  refine h _ D1 H1 T σ _ s1 (fun v o ρ' D' H' q s' => k _ _ _ D' H' q (s'.bk.push .non)) fun C' fs ρ' D' H' d q s' xa σ0 h2 => ?_
  obtain ⟨rfl, x, hx, q⟩ := q
  refine ⟨true, hm, fun _ a ha => hx D' H' T σ _ a d Q s' xa ?_ (fun v D2 H2 z => k v _ ρ' D2 H2 q z), fun z => nomatch z⟩
  rw [List.getElem?_set_self (by omega)]
end
end DL

/-! ### Mk. a parameter by keyword only -/
namespace DL
open PySem L2 Evl PySem.Spec PyProof.Rows
section
variable (P : Program) (w : World) (K : PySem.W.Frag) [HasTabs K] (mg : Str → Option Value) (base : Heap)
structure DfnO (x qual : Str) (st : Stmt) (ps : List Str) (ko : Str) (dv : V) : Prop where
  ex : ∃ (f : Addr) (fd : FuncData), mg x = some (.ref f) ∧ PySem.W.keepIn K (.ref f) = true ∧ FunD K x qual (defArgs st) (defBody st) (defScope st) [] [(ko, dv)] f fd ∧ KBn K fd (ps ++ [ko]) ps.length [ko] (fun us ws => us ++ ws) (fun vs zs => vs ++ zs) ∧ ∃ us, Vals [dv] us ∧ Binds K fd (ps ++ [ko]) us
/-- called with it -/
structure OkN (k : Nat) (x : Str) (ps : List Str) (ko : Str) (R : Pr) : Prop where
  ex : ∃ (f : Addr) (fd : FuncData), mg x = some (.ref f) ∧ PySem.W.keepIn K (.ref f) = true ∧ KBn K fd (ps ++ [ko]) ps.length [ko] (fun us ws => us ++ ws) (fun vs zs => vs ++ zs) ∧ FnOk P w K mg base CX0 k f fd (ps ++ [ko]) (spOf K R)
/-- called without it -/
structure OkM (k : Nat) (x : Str) (ps : List Str) (ko : Str) (R : Pr) (dv : V) : Prop where
  ex : ∃ (f : Addr) (fd : FuncData) (us : List Value), mg x = some (.ref f) ∧ PySem.W.keepIn K (.ref f) = true ∧ Vals [dv] us ∧ Binds K fd (ps ++ [ko]) us ∧ FnOk P w K mg base CX0 k f fd (ps ++ [ko]) (spOf K R)
end
section
variable {P : Program} {w : World} {K : PySem.W.Frag} [HasTabs K] {mg : Str → Option Value} {base h : Heap}
theorem DfnO.ok {x qual ko : Str} {st : Stmt} {N ps : List Str} {k : Nat} {R : Pr} {dv : V} (F : DfnO K mg x qual st ps ko dv) (S : FnScope N (ps ++ [ko]) (defScope st)) (hl : (ps ++ [ko]).length ≤ N.length) (len : ∀ os Pp, R os Pp → os.length = (ps ++ [ko]).length)
    (noex : ∀ os Pp, R os Pp → R os (fun r us => (match r with | .ok _ => True | .ex _ _ => False) ∧ Pp r us))
    (hbody : ∀ (f : Addr) (cdv : Value) (A : Around) (outer : List Env) (s : Shared) (H : Hp) (E : XK), Room k (A.deeper (PyProof.Rows.envOfC qual (defScope st) s.heap.objs.size f cdv)) →
      ∃ t, PSs (cxOf CX0 P w K mg base N qual (defScope st) f cdv A outer s H E).nox (defBody st) t ∧ ∀ os Pp, R os Pp → SvP K E0 t (os.map some ++ List.replicate (N.length - os.length) none) (retS os Pp)) :
    OkN P w K mg base (k + 1) x ps ko R ∧ OkM P w K mg base (k + 1) x ps ko R dv := by
  obtain ⟨f, fd, h1, h2, h3, h4, us, h5, h6⟩ := F.ex
  have G : FnOk P w K mg base CX0 (k + 1) f fd (ps ++ [ko]) (spOf K R) := by
    refine h3.ok S (fun vs H Q E h => ?_) (fun cdv A outer s H vs Q E hr h => ?_)
    · obtain ⟨D, T, os, Pp, e, _, r, _⟩ := h
      exact e.trans (len os Pp r)
    · obtain ⟨t, ht, hb⟩ := hbody f cdv A outer s H E hr
      refine ⟨t, ht.nox, ?_⟩
      obtain ⟨D, T, os, Pp, e, s1, r, k1, k2⟩ := h
      exact run_body (K := K) (E := E0) (R := R) (ps := ps ++ [ko]) (by rw [e, len os Pp r]; exact hl) ⟨D, T, os, _, e, s1, noex os Pp r, fun v o us D' H' q => k1 v o us D' H' q.2, fun C fs us D' H' d q => q.1.elim⟩ hb
  exact ⟨⟨f, fd, h1, h2, h4, G⟩, ⟨f, fd, us, h1, h2, h5, h6, G⟩⟩
abbrev BindO (x qual : Str) (st : Stmt) (ps : List Str) (ko : Str) : Prop := ∀ (D : Addr) (doc pm : Value) (an : Option Addr) (cdv ct : Value) (us ws : List Value), us.length = ps.length → ws.length = 1 →
  bindArgs (PySem.W.fnOf x qual (defArgs st) (defBody st) (defScope st) .none (.ref D) doc pm an cdv ct) ⟨us, [ko].zip ws⟩ = pure ((ps ++ [ko]).zip (us ++ ws))
abbrev BindM (x qual : Str) (st : Stmt) (ps : List Str) (ko : Str) : Prop := ∀ (D : Addr) (doc pm : Value) (an : Option Addr) (cdv ct : Value) (us ks : List Value), us.length = ps.length → ks.length = 1 →
  KwChain D ([ko].zip ks) (bindArgs (PySem.W.fnOf x qual (defArgs st) (defBody st) (defScope st) .none (.ref D) doc pm an cdv ct) ⟨us, []⟩) ((ps ++ [ko]).zip (us ++ ks))
theorem dfnO_mk {x qual ko : Str} {st : Stmt} {ps : List Str} {f D : Addr} {oc doc pm cdv ct u : Value} {od an : Option Addr} {osl : Array (Option Value)} {dv : V} (X : K.In h) (G : h.Ns mainGlobals mg) (a : PySem.W.nsIn K mainGlobals x = some (some (.ref f)))
    (l : K.lookup f = some ⟨oc, od, .func (PySem.W.fnOf x qual (defArgs st) (defBody st) (defScope st) .none (.ref D) doc pm an cdv ct), osl⟩) (ld : PySem.W.nsIn K D ko = some (some u)) (r : RelV dv u) (c : PySem.W.codeIn K cdv qual = true) (k : PySem.W.keepIn K (.ref f) = true)
    (b : BindO x qual st ps ko) (bm : BindM x qual st ps ko) : DfnO K mg x qual st ps ko dv := by
  have F : FunD K x qual (defArgs st) (defBody st) (defScope st) [] [(ko, dv)] f (PySem.W.fnOf x qual (defArgs st) (defBody st) (defScope st) .none (.ref D) doc pm an cdv ct) :=
    ⟨⟨oc, od, .none, .ref D, doc, pm, an, cdv, ct, osl, rfl, l, c, .inl ⟨rfl, rfl⟩, .inr ⟨D, rfl, fun q hq => by
      obtain rfl : q = (ko, dv) := by simpa using hq
      exact ⟨u, ld, r⟩⟩⟩, k⟩
  refine ⟨f, _, PySem.W.mg_of X G a, k, F, ⟨fun s us ws _ l1 l2 => .of_eq (b D doc pm an cdv ct us ws l1 l2), fun r1 r2 => r1.append r2⟩, ?_⟩
  obtain ⟨ds, r2, z⟩ := L2.FunD.binds0 (ps := ps ++ [ko]) F ps.length (by simp) (by simp) fun D doc pm an cdv ct us ks l1 l2 => bm D doc pm an cdv ct us ks l1 l2
  exact ⟨ds, r2, z⟩
end
section
variable {X : Cx} {k : Nat} {x ko : Str} {ps : List Str} {R : Pr} {p pos : Pos} {e : Expr} {es : List Expr} {t tk : TA} {dv : V} {kws : List Keyword}
theorem pe_fnN {P : Program} {w : World} {K : PySem.W.Frag} [HasTabs K] {mg : Str → Option Value} {base : Heap} (O : OkN P w K mg base k x ps ko R) (hX : X.prog = P ∧ X.w = w ∧ X.K = K ∧ X.mg = mg ∧ X.base = base) (hr : Room k X.A) (hg : Gl X x) (ha : PA X (e :: es) t) (hkw : PK X kws tk)
    (hks : (backToKw pos (keywordEach kws X.env)).filterMap (·.1) = [ko] := by rfl) (hall : (backToKw pos (keywordEach kws X.env)).all (·.1.isSome) = true := by rfl) (hdb : (x == ("__debug__" : Str)) = false := by decide) (he : starEach (e :: es) X.env = (false, eval e X.env) :: starEach es X.env := by rfl)
    (hpl : ((backTo pos (starEach (e :: es) X.env)).any (·.1) || (backToKw pos (keywordEach kws X.env)).any (·.1.isNone)) = false := by rfl) : PE X (.Call (.Name x p) (e :: es) kws pos) (tCallN ps.length 1 (spOf K R) (fun vs zs => vs ++ zs) E0 t tk) := by
  obtain ⟨f, fd, hm, hk, hb, F⟩ := O.ex
  obtain ⟨rfl, rfl, rfl, rfl, rfl⟩ := hX
  exact pe_callN F hr hg hm hk hb pass0 ha hkw hall hks hdb he hpl
theorem pe_fnM {P : Program} {w : World} {K : PySem.W.Frag} [HasTabs K] {mg : Str → Option Value} {base : Heap} (O : OkM P w K mg base k x ps ko R dv) (hX : X.prog = P ∧ X.w = w ∧ X.K = K ∧ X.mg = mg ∧ X.base = base) (hr : Room k X.A) (hg : Gl X x) (ha : PA X (e :: es) t) (hdb : (x == ("__debug__" : Str)) = false := by decide)
    (he : starEach (e :: es) X.env = (false, eval e X.env) :: starEach es X.env := by rfl) (hpl : (backTo pos (starEach es X.env)).any (·.1) = false := by rfl) : PE X (.Call (.Name x p) (e :: es) [] pos) (tCall (spOf K R) [dv] E0 t) := by
  obtain ⟨f, fd, us, hm, hk, hv, hb, F⟩ := O.ex
  obtain ⟨rfl, rfl, rfl, rfl, rfl⟩ := hX
  exact pe_call F hr hg hm hk hb hv pass0 ha hdb he hpl
end
section
variable {K : PySem.W.Frag} [HasTabs K] {E : XK} {ρ : Rh} {P : EPost} {t tk : TA} {Pa : List Ow → Rh → Prop} {n m : Nat}
theorem av_then (h : AvP K E t ρ (fun os ρ1 => AvP K E tk ρ1 (fun zs ρ2 => os.length = n ∧ zs.length = m ∧ Pa (os ++ zs) ρ2) P) P) : AvP K E (fun σ H Q => t σ H fun vs H1 => tk σ H1 fun zs H2 => vs.length = n ∧ zs.length = m ∧ Q (vs ++ zs) H2) ρ Pa P := by
  intro D H T σ Q s k xo
  refine h D H T σ _ s (fun vs os ρ1 D1 H1 q1 e1 s1 => ?_) xo
  refine q1 D1 H1 _ σ _ s1 (fun ws zs ρ2 D2 H2 q2 e2 s2 => ?_) fun C fs ρ' D' H' d q s' x => ?_
  · obtain ⟨l1, l2, q⟩ := q2
    refine ⟨e1.trans l1, e2.trans l2, k (vs ++ ws) _ ρ2 D2 H2 q (by simp [e1, e2]) ?_⟩
    rw [zip_snoc e1, List.append_assoc]
    refine s2.perm ?_
    rw [← List.append_assoc, ← List.append_assoc]
    exact List.perm_append_comm.append_right _
  · exact xo C fs ρ' D' H' d q s'.popN x
theorem ev_callN {R : Pr} (h : AvP K E t ρ (fun os ρ1 => AvP K E tk ρ1 (fun zs ρ2 => os.length = n ∧ zs.length = m ∧ R (os ++ zs) (fun r os' => P r (bks os' ρ2))) P) P) : EvP K E (tCallN n m (spOf K R) (fun vs zs => vs ++ zs) E t tk) ρ P := by
  have g := ev_call (K := K) (E := E) (ρ := ρ) (P := P) (R := R) (av_then (Pa := fun os ρ2 => R os (fun r os' => P r (bks os' ρ2))) h)
  intro D H T σ Q s k xo
  have z := g D H T σ Q s k xo
  unfold tCall at z
  unfold tCallN
  simpa only [List.append_nil] using z
end
end DL

/-! ### Ml. how many entries the rows of an owned list have -/
namespace DL
open PySem L2 Evl
section
variable {K : PySem.W.Frag} [HasTabs K] {E : XK} {ρ : Rh} {P : EPost} {i : Nat} {a : Addr}
theorem wp_one (ρ : Rh) (j : Nat) : wp ρ [j] = ρ.set j none := rfl
theorem rows_get {D H : Hp} : ∀ {vs : List V} {ro : List Ow} {ls : List Nat}, DenOs K D H vs ro → All2 (fun (n : Nat) (o : Ow) => ∃ b xs, o = .l b xs ∧ xs.length = n) ls ro → vs.length = ls.length ∧ ∀ (t n : Nat), ls[t]? = some n → ∃ (b : Addr) (us : List V), vs[t]? = some (V.ref b) ∧ H b = some (.lst us) ∧ us.length = n
  | _, _, _, .nil, .nil => ⟨rfl, fun t n e => by simp at e⟩
  | _, _, _, .cons (v := v) g gs, .cons (a := n0) q qs => by
    obtain ⟨h1, h2⟩ := rows_get gs qs
    refine ⟨by simp [h1], fun t n e => ?_⟩
    cases t with
    | zero =>
      simp at e
      subst e
      obtain ⟨b, xs, rfl, hl⟩ := q
      cases g with
      | l g1 g2 => exact ⟨_, _, rfl, g1, by rw [g2.length, hl]⟩
    | succ t => simpa using h2 t n (by simpa using e)
theorem ev_sumlen {j : Nat} {ro : List Ow} {ls : List Nat} (e : ρ[i]? = some (some (.l a ro))) (hro : All2 (fun (n : Nat) (o : Ow) => ∃ b xs, o = .l b xs ∧ xs.length = n) ls ro) (hl : ls.length ≤ 100000) (hij : i ≠ j) (hj : j < ρ.length)
    (q : P (.ok (.d (.int (ls.map fun n : Nat => (n : Int)).sum))) (ρ.set j none)) :
    EvP K E (tCB (rSum K) (tCons (tLc (iAny K (tVar i)) (gName j) tYes (tCB (rLenQ K) (tCons (tVar j) tNil)) [j]) tNil)) ρ P := by
  intro D H T σ Q s k xo
  obtain ⟨s0, vs, hH, hD⟩ := s.getl e
  obtain ⟨hvl, hrow⟩ := rows_get hD hro
  have hjs : j < σ.length := by rw [s.len]; exact hj
  refine ⟨.ref a, s0, a, rfl, .inl ⟨⟨vs, sq_of hH⟩, fun Dl hDl => ?_⟩⟩
  have hne : a ≠ Dl := fun z => by rw [← z, hH] at hDl; cases hDl
  refine ⟨fun t m H' => t + m = ls.length ∧ H' = upd H Dl (.lst ((ls.take t).map fun n : Nat => V.int (n : Int))), ⟨ls.length, by omega, rfl⟩, ?_⟩
  rintro t m H' ⟨hm, rfl⟩
  have hSq : ∀ xs, SqL K (upd H Dl (.lst xs)) a vs := fun xs => sq_of (by rw [upd_ne hne]; exact hH)
  by_cases ht : t < ls.length
  · have hg := List.getElem?_eq_getElem ht
    obtain ⟨b, us, hb1, hb2, hb3⟩ := hrow t _ hg
    have hbn : b ≠ Dl := fun z => by rw [← z, hb2] at hDl; cases hDl
    refine .inr ⟨⟨vs, .ref b, hSq _, hb1⟩, fun H2 => H2 = upd H Dl (.lst ((ls.take (t + 1)).map fun n : Nat => V.int (n : Int))), fun H2 hH2 => ⟨m - 1, by omega, by omega, hH2⟩, ?_⟩
    rintro x H2 ⟨rfl, hy⟩
    have hx := hy vs (hSq _)
    rw [hb1] at hx
    cases hx
    refine ⟨by rw [wipe_set (List.mem_cons_self), wipe_wipe], ?_⟩
    dsimp only [tYes]
    rw [if_pos rfl]
    refine ⟨.ref b, ?_, b, us, rfl, .inl (sq_of (by rw [upd_ne hbn]; exact hb2)), ?_⟩
    · rw [List.getElem?_set_self (by rw [L2.wipe_length]; exact hjs)]
    · refine ⟨_, upd_same, ?_, ?_⟩
      · rw [List.length_map, List.length_take]
        exact sz_lt (by omega)
      · rw [upd_upd, hb3, List.take_add_one, hg, List.map_append]
        rfl
  · have et : t = ls.length := by omega
    subst et
    rw [List.take_length]
    have s1 : Sd K D (upd H Dl (.lst [])) ((.ref Dl, .l Dl []) :: T) σ ρ := Sd.own (vs := []) (os := []) s rfl hDl
    refine .inl ⟨⟨vs, hSq _, by omega⟩, Dl, ls.map fun n : Nat => (n : Int), rfl, sq_of (by rw [upd_same, List.map_map]; rfl), ?_⟩
    have sp : Sd K D H ((ls.map fun n : Nat => V.int (n : Int)).zip (ls.map fun n : Nat => Ow.d (.int (n : Int))) ++ T) σ ρ := by
      clear hro hrow hvl hl hm ht s1 q k
      induction ls with
      | nil => exact s
      | cons n ls ih => exact Sd.push ih (.int _)
    have s2 := (Sd.own sp (by simp) hDl).pop
    have s3 := ((s2.wipe [j]).unwipe).push (v := .int (ls.map fun n : Nat => (n : Int)).sum) (d := .int (ls.map fun n : Nat => (n : Int)).sum) (.int _)
    exact k _ _ _ D _ q s3
end
section
variable {X : Cx} {k : Nat} {x : Str} {ps : List Str} {R : Pr} {p pos : Pos} {e : Expr} {es : List Expr} {t : TA} {C : Addr} {E : XK}
/-- a class made where something may be raised -/
theorem pe_clsE {P : Program} {w : World} {K : PySem.W.Frag} [HasTabs K] {mg : Str → Option Value} {base : Heap} (O : OkC P w K mg base k x ps C R) (hX : X.prog = P ∧ X.w = w ∧ X.K = K ∧ X.mg = mg ∧ X.base = base) (hr : Room (k + 1) X.A) (hg : Gl X x) (ha : PA X (e :: es) t) (hdb : (x == ("__debug__" : Str)) = false := by decide)
    (he : starEach (e :: es) X.env = (false, eval e X.env) :: starEach es X.env := by rfl) (hpl : (backTo pos (starEach es X.env)).any (·.1) = false := by rfl) : PE X (.Call (.Name x p) (e :: es) [] pos) (tMake C (spOf K R) [] E t) := by
  obtain ⟨f, fd, hm, hk, hb, F⟩ := O.ex
  obtain ⟨rfl, rfl, rfl, rfl, rfl⟩ := hX
  exact pe_make hk F hr hg hm hb .nil (fun _ _ _ _ _ _ _ h => h.elim) ha hdb he hpl
end
end DL

/-! ### Mm. a lambda handed to a def of the law, however it is heard -/
namespace DL
open PySem L2 Evl PySem.Spec PyProof.Rows
section
variable {X : Cx} {K : PySem.W.Frag} {mg : Str → Option Value}
theorem pe_lam {x a n : Str} {st : Stmt} {c P' : Addr} {T : List (Addr × Str)} {k : Nat} {params : Arguments} {body : Expr} {scope : Scope} {t : XK → TE} {p lpos pos : Pos} {TT : (XK → Hp → VK → Prop) → Hp → VK → Prop} (hX : X.K = K ∧ X.mg = mg) (F : Dfn K mg x x st [a]) (S : FnScope [a, n] [a] (defScope st)) (hva : Vis (defScope st) a)
    (hG : ∀ (g : Addr) (cdg : Value) (q : Str), LamX.GivesTo X [a, n] x (defScope st) g cdg (defBody st) a q TT) (TB : LamX.TabB X.base X.mg c P') (hcode : X.env.code = .ref c) (hmT : (P', X.env.qual ++ "<lambda>") ∈ T) (hu : ∀ p ∈ T, p.1 = P' → p.2 = X.env.qual ++ "<lambda>")
    (hr : Room (k + 2) X.A) (hg : Gl X x) (L : LamX.LamS X.env.scope scope)
    (hbody : ∀ (A : Around) (outer : List Env) (s : Shared) (H : Hp) (E : XK) (f c' : Addr), Room k (A.deeper (LamX.lamEnv X scope s.heap.objs.size f c')) → PE (LamX.lamCx X A outer s H E scope f c') body (t E))
    (hdef : defaultsOf params X.env = ([], []) := by rfl) (hbind : ∀ (q : Str) (cl : List (Str × Addr)) (pm cv ctv : Value), bindArgs (PySem.W.kla_fn "<lambda>" q params body scope cl pm cv ctv) ⟨[], []⟩ = pure [] := by intro _ _ _ _ _; rfl)
    (hdb : (x == ("__debug__" : Str)) = false := by decide) (hd : (a == ("__debug__" : Str)) = false := by decide) (hcd : (a == ("__classdict__" : Str)) = false := by decide) :
    PE X (.Call (.Name x p) [.Lambda params body scope lpos] [] pos) (LamX.tLam T TT t) := by
  obtain ⟨rfl, rfl⟩ := hX
  obtain ⟨g, fd, h1, h2, h3, h4⟩ := F.ex
  obtain ⟨oc, od, kV, doc, pm, an, cdv, ct, osl, rfl, lk, hcd2⟩ := h4.ex
  exact LamX.pe_lamcall (a := a) (Ng := [a, n]) hg h1 h2 lk hcd2 h3 S rfl hva (hG g cdv _) TB hcode hmT hu hr L hdef hbind hbody hdb hd hcd
end
/-- try: body / except x as n: return e -/
def tTryX (K : PySem.W.Frag) (n i : Nat) (C : Addr) (te : Addr → Value → Option Addr → TE) (t : XK → TS) : TS := fun D σ H => ∃ Ech : XK, (∀ cls d (σ' : L2.St) H', Ech cls d H' → σ'.length = n → ∃ y, PySem.W.exmOne K cls (.ref C) = some y ∧ (y = true → ∀ a, H' a = none → te a cls d (σ'.set i (some (.ref a))) H' D.rt) ∧ (y = false → False)) ∧ t Ech D σ H
theorem ps_tryX {X : Cx} {n e : Str} {i : Nat} {C : Addr} {body : List Stmt} {ex : Expr} {te : Addr → Value → Option Addr → TE} {t : XK → TS} {Wo : WX} {p1 p2 p3 pos : Pos} (stk : X.stack = X.env :: X.outer) (frm : X.env.frame = some X.env.locals) (nd : X.N.Nodup) (hn : X.N[i]? = some n) (loc : X.env.kindOf n = some .local) (tk : Takes X Wo)
    (hge : Gl X e) (hme : X.mg e = some (.ref C)) (hex : ∀ (a : Addr) (oe : Obj) (cls : Value) (d : Option Addr) (pn : List (Addr × Obj)), Zc cls d oe → (∃ vs, oe.data = .fields vs) → PE (X.suite a ((a, oe) :: pn)) ex (te a cls d))
    (inner : ∀ (E : XK) (pn : List (Addr × Obj)) (xe : Value → Shared → Prop), Takes (X.tr pn xe) (fun cls d _ H => E cls d H) → PassesOwn (model X.prog X.w) X.A X.env xe → PSs (X.tr pn xe) body (t E)) (hde : (e == ("__debug__" : Str)) = false := by decide) :
    PS X (.Try body [.ExceptHandler (some (.Name e p1)) (some n) [.Return (some ex) p2] p3] [] [] pos) (tTryX X.K X.N.length i C te t) := by
  have base := ps_tryAll (X := X) (k0 := .ExceptHandler (some (.Name e p1)) (some n) [.Return (some ex) p2] p3) (ks := []) (n := n) (i := i) (body := body) (pos := pos) (l := [(.ref C, fun b cls d => tRet (te b cls d))]) (Wo := Wo)
      (tb := fun W D σ H => ∃ Ech : XK, (∀ cls d (σ' : L2.St) H', Ech cls d H' → σ'.length = X.N.length → W cls d σ' H') ∧ t Ech D σ H) stk frm nd hn loc tk (fun W pn xe tk po => ⟨fun pn2 s' σ H' D I z => by
        obtain ⟨Ech, hW, ht⟩ := z
        exact (inner Ech pn xe (fun u s' ⟨a, B, sI, pins, σ, H, cls, d, e, I, nb, up, sky, na, os, ag, w⟩ => takes_len tk u s' ⟨a, B, sI, pins, σ, H, cls, d, e, I, nb, up, sky, na, os, ag, fun hl => hW cls d σ H w hl⟩) po).run pn2 s' σ H' D I ht⟩)
      (.cons ⟨hge, hde, .inl hme⟩ (fun b oe cls d pn hz hf => pss_one (ps_ret (pos := p2) (hex b oe cls d pn hz hf))) .nil)
  refine ⟨fun pins s σ H D I h => base.run pins s σ H D I ?_⟩
  obtain ⟨Ech, hE, ht⟩ := h
  refine ⟨Ech, fun cls d σ' H' z hl => ?_, ht⟩
  obtain ⟨y, e1, e2, e3⟩ := hE cls d σ' H' z hl
  exact ⟨y, e1, fun hy a ha => e2 hy a ha, fun hy => (e3 hy).elim⟩
section
variable {K : PySem.W.Frag} [HasTabs K] {E : XK} {ρ : Rh} {S : SPost} {C : Addr} {te : Addr → Value → Option Addr → TE} {t : XK → TS} {n i : Nat}
theorem sv_tryX (hm : PySem.W.exmOne K (.ref C) (.ref C) = some true) (hi : i < n) (h : ∀ E', SvP K E' (t E') ρ (fun out => match out with
    | .xc C' fs ρ1 => C' = C ∧ ∃ x, (∀ (D H : Hp) (T : Tm) (σ σ1 : L2.St) (a d : Addr) (Q : VK), Sd K D H T σ ρ1 → XAt K D H d fs → σ1[i]? = some (some (.ref a)) → (∀ v D' H', Sd K D' H' ((v, .d x) :: T) σ ρ1 → Q v H') → te a (.ref C) (some d) σ1 H Q) ∧ S (.rt (.d x) ρ1)
    | .nx ρ' => S (.nx ρ') | .rt o ρ' => S (.rt o ρ') | .bk ρ' => S (.bk ρ') | .ct ρ' => S (.ct ρ'))) : SvP K E (tTryX K n i C te t) ρ S := by
  intro D H T σ En s w
  refine ⟨fun cls d H' => ∀ σ' : L2.St, σ'.length = n → ∃ y, PySem.W.exmOne K cls (.ref C) = some y ∧ (y = true → ∀ a, H' a = none → te a cls d (σ'.set i (some (.ref a))) H' En.rt) ∧ (y = false → False), fun cls d σ' H' z hl => z σ' hl, ?_⟩
  refine h _ D H T σ En s ⟨fun ρ' D' H' σ' q s' => w.nx ρ' D' H' σ' q s', fun v o ρ' D' H' σ' q s' => w.rt v o ρ' D' H' σ' q s', fun ρ' D' H' σ' q s' => w.bk ρ' D' H' σ' q s', fun ρ' D' H' σ' q s' => w.ct ρ' D' H' σ' q s', fun C' fs ρ' D' H' σ' d q s' xa σ0 hl => ?_⟩
  obtain ⟨rfl, x, hx, q⟩ := q
  refine ⟨true, hm, fun _ a ha => hx D' H' T σ' _ a d _ s' xa ?_ (fun v D2 H2 z => w.rt v _ ρ' D2 H2 σ' q z), fun z => nomatch z⟩
  rw [List.getElem?_set_self (by omega)]
end
section
variable {P : Program} {w : World} {K : PySem.W.Frag} [HasTabs K] {mg : Str → Option Value} {base : Heap}
/-- .. whose code object stands at c -/
theorem fnG_ofC {x qual : Str} {st : Stmt} {f c : Addr} {fd : FuncData} {N ps : List Str} {k : Nat} {R : Pr} (F : Fun K x qual st f fd) (hcode : fd.code = .ref c) (S : FnScope N ps (defScope st)) (hl : ps.length ≤ N.length) (len : ∀ os Pp, R os Pp → os.length = ps.length)
    (noex : ∀ os Pp, R os Pp → R os (fun r us => (match r with | .ok _ => True | .ex _ _ => False) ∧ Pp r us))
    (hb : ∀ (f : Addr) (A : Around) (outer : List Env) (s : Shared) (H : Hp) (E : XK), A.guards = some [] → Room k (A.deeper (PyProof.Rows.envOfC qual (defScope st) s.heap.objs.size f (.ref c))) →
      ∃ t, PSs (cxOf CX0 P w K mg base N qual (defScope st) f (.ref c) A outer s H E).nox (defBody st) t ∧ ∀ os Pp, R os Pp → SvP K E0 t (os.map some ++ List.replicate (N.length - os.length) none) (retS os Pp)) : FnG P w K mg base (k + 1) f fd ps (spOf K R) :=
  fnG_code F hcode S (fun vs H Q E h => by obtain ⟨D, T, os, Pp, e, _, r, _⟩ := h; exact e.trans (len os Pp r)) fun A outer s H vs Q E hg hr h => by
    obtain ⟨t, ht, hb⟩ := hb f A outer s H E hg hr
    refine ⟨t, ht, ?_⟩
    obtain ⟨D, T, os, Pp, e, s1, r, k1, k2⟩ := h
    exact run_body (K := K) (E := E0) (R := R) (ps := ps) (by rw [e, len os Pp r]; exact hl) ⟨D, T, os, _, e, s1, noex os Pp r, fun v o us D' H' q => k1 v o us D' H' q.2, fun C fs us D' H' d q => q.1.elim⟩ hb
end
section
variable {K : PySem.W.Frag} [HasTabs K] {E : XK} {ρ : Rh} {S : SPost} {tas : TA} {i : Nat}
theorem sv_par3 {j l : Nat} (h : AvP K E tas ρ (fun os ρ1 => ∃ o1 o2 o3, os = [o1, o2, o3] ∧ i < ρ1.length ∧ j < ρ1.length ∧ l < ρ1.length ∧ S (.nx (((ρ1.set i (some o1)).set j (some o2)).set l (some o3)))) (bndS (fun _ _ => True) S)) : SvP K E (tPar3 i j l tas) ρ S := by
  intro D H T σ En s w
  refine h D H T σ _ s (fun vs os ρ1 D1 H1 q1 e1 s1 => ?_) (.ofWd w fun _ _ _ z => z)
  obtain ⟨o1, o2, o3, rfl, h1, h2, h3, q⟩ := q1
  match vs, e1 with
  | [v, u, x], _ =>
    refine ⟨v, u, x, rfl, w.nx _ D1 H1 _ q ?_⟩
    have g := Sd.toSlot (T := (u, o2) :: (x, o3) :: T) s1 i (by rw [s1.len]; exact h1)
    have g2 := Sd.toSlot (T := (x, o3) :: T) g j (by rw [g.len, List.length_set]; exact h2)
    exact g2.toSlot l (by rw [g2.len, List.length_set, List.length_set]; exact h3)
/-- an own thing or another, by a test; what follows is shown once -/
theorem ev_mid {te : TE} {P : EPost} (M : Ow → Rh → Prop) (h : EvP K E te ρ (bnd M P)) (k : ∀ o ρ1, M o ρ1 → P (.ok o) ρ1) : EvP K E te ρ P := by
  refine EvP.mono h fun r ρ1 z => ?_
  cases r with
  | ex C fs => exact z
  | ok o => exact k o ρ1 z
end
end DL

/-! ### Mn. whether a truth value is another one -/
namespace DL
open PySem L2 Evl
def rNotB : R2 := fun x y H Q => ∃ a b : Bool, x = .bl a ∧ y = .bl b ∧ Q (.bl (!decide (a = b))) H
def rIsB : R2 := fun x y H Q => ∃ a b : Bool, x = .bl a ∧ y = .bl b ∧ Q (.bl (decide (a = b))) H
theorem op_notB {X : Cx} : OpR X (compareOp .IsNot) rNotB := by
  intro pins s σ H x y v u Q I rx ry h
  obtain ⟨a, b, rfl, rfl, q⟩ := h
  cases rx
  cases ry
  refine wpAny_isNot_plain rfl (fin_bl I q ?_)
  cases a <;> cases b <;> rfl
theorem op_isB {X : Cx} : OpR X (compareOp .Is) rIsB := by
  intro pins s σ H x y v u Q I rx ry h
  obtain ⟨a, b, rfl, rfl, q⟩ := h
  cases rx
  cases ry
  refine wpAny_is_plain rfl (fin_bl I q ?_)
  cases a <;> cases b <;> rfl
section
variable {K : PySem.W.Frag} [HasTabs K] {E : XK} {ρ : Rh} {P : EPost} {ta tb : TE}
theorem aop_notB {a b : Bool} : AOp K rNotB (.bl a) (.bl b) (.bl (!decide (a = b))) := ⟨rfl, fun H v w Q h1 h2 q => by
  cases h1; cases h2; exact ⟨a, b, rfl, rfl, q⟩⟩
theorem aop_isB {a b : Bool} : AOp K rIsB (.bl a) (.bl b) (.bl (decide (a = b))) := ⟨rfl, fun H v w Q h1 h2 q => by
  cases h1; cases h2; exact ⟨a, b, rfl, rfl, q⟩⟩
theorem ev_notB {b : Bool} (h : EvP K E ta ρ (bnd (fun x ρ1 => ∃ a, x = .d (.bl a) ∧ P (.ok (.d (.bl (!decide (a = b))))) ρ1) P)) : EvP K E (tOp rNotB ta (tC (.bl b))) ρ P := by
  refine ev_op ?_
  refine h.mono fun r ρ1 q => ?_
  cases r with
  | ex C fs => exact q
  | ok x =>
    obtain ⟨a, rfl, q⟩ := q
    exact ev_b ⟨rfl, rfl, _, aop_notB, q⟩
end
end DL

/-! ### Mo. an owned list lent as data -/
namespace DL
open PySem L2 Evl PySem.Spec PyProof.Rows
/-- what holds over D holds already over finitely many of its addresses -/
def Sup (Q : Hp → Prop) (D : Hp) : Prop := ∃ L : List (Addr × HO), (∀ p ∈ L, D p.1 = some p.2 ∧ plainO p.2 = true) ∧ ∀ D' : Hp, (∀ p ∈ L, D' p.1 = some p.2) → Q D'
theorem Sup.pure {Q : Hp → Prop} {D : Hp} (h : ∀ D', Q D') : Sup Q D := ⟨[], fun p hp => absurd hp List.not_mem_nil, fun D' _ => h D'⟩
theorem Sup.at {D : Hp} {a : Addr} {u : HO} (h : D a = some u) (k : plainO u = true) : Sup (fun D' => D' a = some u) D := ⟨[(a, u)], fun p hp => by rw [List.mem_singleton.mp hp]; exact ⟨h, k⟩, fun D' q => q (a, u) List.mem_cons_self⟩
theorem Sup.and {Q R S : Hp → Prop} {D : Hp} (h : Sup Q D) (k : Sup R D) (m : ∀ D', Q D' → R D' → S D') : Sup S D := by
  obtain ⟨L, h1, h2⟩ := h
  obtain ⟨M, k1, k2⟩ := k
  refine ⟨L ++ M, fun p hp => ?_, fun D' q => m D' (h2 D' fun p hp => q p (List.mem_append_left _ hp)) (k2 D' fun p hp => q p (List.mem_append_right _ hp))⟩
  rcases List.mem_append.mp hp with z | z
  · exact h1 p z
  · exact k1 p z
theorem Sup.map {Q S : Hp → Prop} {D : Hp} (h : Sup Q D) (m : ∀ D', Q D' → S D') : Sup S D := by
  obtain ⟨L, h1, h2⟩ := h
  exact ⟨L, h1, fun D' q => m D' (h2 D' q)⟩
theorem sup_sq {K : PySem.W.Frag} {D : Hp} {a : Addr} {xs : List V} (h : SqL K D a xs) : Sup (fun D' => SqL K D' a xs) D := by
  rcases h with (h | ⟨o, h⟩) | h
  · exact (Sup.at h rfl).map fun D' e => .inl (.inl e)
  · exact (Sup.at h rfl).map fun D' e => .inl (.inr ⟨o, e⟩)
  · exact Sup.pure fun D' => .inr h
mutual
theorem Den.sup {K : PySem.W.Frag} {D : Hp} : ∀ {v : V} {d : Dat}, Den K D v d → Sup (fun D' => Den K D' v d) D
  | _, _, .non => Sup.pure fun _ => .non
  | _, _, .bl b => Sup.pure fun _ => .bl b
  | _, _, .int i => Sup.pure fun _ => .int i
  | _, _, .str x => Sup.pure fun _ => .str x
  | _, _, .lst h r => (Sup.at h rfl).and (DenAll.sup r) fun _ e k => .lst e k
  | _, _, .tup h r => (Sup.at h rfl).and (DenAll.sup r) fun _ e k => .tup e k
  | _, _, .obj h r => (Sup.at h rfl).and (DenF.sup r) fun _ e k => .obj e k
  | _, _, .ty n => Sup.pure fun _ => .ty n
  | _, _, .scr h => (sup_sq h).map fun _ e => .scr e
theorem DenAll.sup {K : PySem.W.Frag} {D : Hp} : ∀ {v : List V} {d : List Dat}, DenAll K D v d → Sup (fun D' => DenAll K D' v d) D
  | _, _, .nil => Sup.pure fun _ => .nil
  | _, _, .cons h r => (Den.sup h).and (DenAll.sup r) fun _ e k => .cons e k
theorem DenF.sup {K : PySem.W.Frag} {D : Hp} : ∀ {v : List (Str × V)} {d : List (Str × Dat)}, DenF K D v d → Sup (fun D' => DenF K D' v d) D
  | _, _, .nil => Sup.pure fun _ => .nil
  | _, _, .cons h r => (Den.sup h).and (DenF.sup r) fun _ e k => .cons e k
end
theorem DenK.sup {K : PySem.W.Frag} {D : Hp} : ∀ {v : List (List Key × V)} {d : List (List Key × Dat)}, DenK K D v d → Sup (fun D' => DenK K D' v d) D
  | _, _, .nil => Sup.pure fun _ => .nil
  | _, _, .cons h r => (Den.sup h).and (DenK.sup r) fun _ e k => .cons e k
mutual
theorem DenO.sup {K : PySem.W.Frag} {D H : Hp} : ∀ {v : V} {o : Ow}, DenO K D H v o → Sup (fun D' => DenO K D' H v o) D
  | _, _, .d h => (Den.sup h).map fun _ e => .d e
  | _, _, .m a => Sup.pure fun _ => .m a
  | _, _, .l h r => (DenOs.sup r).map fun _ e => .l h e
  | _, _, .t h r => (DenK.sup r).map fun _ e => .t h e
  | _, _, .z h r => (DenK.sup r).map fun _ e => .z h e
  | _, _, .o h r => (DenF.sup r).map fun _ e => .o h e
  | _, _, .q h p => (Sup.at h p).map fun _ e => .q e p
theorem DenOs.sup {K : PySem.W.Frag} {D H : Hp} : ∀ {v : List V} {o : List Ow}, DenOs K D H v o → Sup (fun D' => DenOs K D' H v o) D
  | _, _, .nil => Sup.pure fun _ => .nil
  | _, _, .cons h r => (DenO.sup h).and (DenOs.sup r) fun _ e k => .cons e k
end
theorem Slots.sup {K : PySem.W.Frag} {D H : Hp} : ∀ {σ : L2.St} {ρ : Rh}, Slots K D H σ ρ → Sup (fun D' => Slots K D' H σ ρ) D
  | _, _, .nil => Sup.pure fun _ => .nil
  | _, _, .skip r => (Slots.sup r).map fun _ e => .skip e
  | _, _, .cons h r => (DenO.sup h).and (Slots.sup r) fun _ e k => .cons e k
theorem tm_sup {K : PySem.W.Frag} {D H : Hp} : ∀ {T : Tm}, (∀ p ∈ T, DenO K D H p.1 p.2) → Sup (fun D' => ∀ p ∈ T, DenO K D' H p.1 p.2) D
  | [], _ => Sup.pure fun _ p hp => absurd hp List.not_mem_nil
  | x :: T, h => (DenO.sup (h x List.mem_cons_self)).and (tm_sup fun p hp => h p (List.mem_cons_of_mem _ hp)) fun _ e k p hp => by
    rcases List.mem_cons.mp hp with rfl | z
    · exact e
    · exact k p z
/-- owned things of atoms alone: they ask nothing of D -/
def flatF : List (Str × Dat) → Bool
  | [] => true
  | p :: r => p.2.atm && flatF r
def flatK : List (List Key × Dat) → Bool
  | [] => true
  | p :: r => p.2.atm && flatK r
mutual
def Ow.flat : Ow → Bool
  | .d x => x.atm
  | .m _ => true
  | .l _ xs => flats xs
  | .t _ kds => flatK kds
  | .z _ _ _ _ => false
  | .o _ _ gs => flatF gs
  | .q _ _ => false
def flats : List Ow → Bool
  | [] => true
  | o :: os => o.flat && flats os
end
section
variable {K : PySem.W.Frag} [HasTabs K] {D D' H : Hp}
theorem Den.atm {v : V} {d : Dat} (h : Den K D v d) (k : d.atm = true) : Den K D' v d := by
  have := h.v_at k
  rw [this]
  exact Den.at_v k
theorem flatF_den : ∀ {vs : List (Str × V)} {gs : List (Str × Dat)}, DenF K D vs gs → flatF gs = true → DenF K D' vs gs
  | _, _, .nil, _ => .nil
  | _, _, .cons h r, k => by
    unfold flatF at k
    rw [Bool.and_eq_true] at k
    exact .cons (h.atm k.1) (flatF_den r k.2)
theorem flatK_den : ∀ {vs : List (List Key × V)} {gs : List (List Key × Dat)}, DenK K D vs gs → flatK gs = true → DenK K D' vs gs
  | _, _, .nil, _ => .nil
  | _, _, .cons h r, k => by
    unfold flatK at k
    rw [Bool.and_eq_true] at k
    exact .cons (h.atm k.1) (flatK_den r k.2)
mutual
theorem flat_den : ∀ {v : V} {o : Ow}, DenO K D H v o → o.flat = true → DenO K D' H v o
  | _, _, .d h, k => .d (h.atm k)
  | _, _, .m a, _ => .m a
  | _, _, .l h r, k => .l h (flats_den r (by unfold Ow.flat at k; exact k))
  | _, _, .t h r, k => .t h (flatK_den r (by unfold Ow.flat at k; exact k))
  | _, _, .z h r, k => by cases k
  | _, _, .o h r, k => .o h (flatF_den r (by unfold Ow.flat at k; exact k))
  | _, _, .q h p, k => by cases k
theorem flats_den : ∀ {v : List V} {o : List Ow}, DenOs K D H v o → flats o = true → DenOs K D' H v o
  | _, _, .nil, _ => .nil
  | _, _, .cons h r, k => by
    unfold flats at k
    rw [Bool.and_eq_true] at k
    exact .cons (flat_den h k.1) (flats_den r k.2)
end
end
/-- slots ahead, slots as the reading left them, slots as they are known behind it -/
inductive Bor : Rh → Rh → Rh → Prop
  | nil : Bor [] [] []
  | none {x y : Option Ow} {r r1 rf : Rh} : Bor r r1 rf → Bor (x :: r) (y :: r1) (none :: rf)
  | same {d : Dat} {y : Option Ow} {r r1 rf : Rh} : Bor r r1 rf → Bor (some (.d d) :: r) (y :: r1) (some (.d d) :: rf)
  | flat {x : Option Ow} {o : Ow} {r r1 rf : Rh} : o.flat = true → Bor r r1 rf → Bor (x :: r) (some o :: r1) (some o :: rf)
theorem Bor.sub {r r1 rf : Rh} (h : Bor r r1 rf) : (fpR rf).Sublist (fpR r1) := by
  induction h with
  | nil => exact List.nil_sublist _
  | none _ ih => exact ih.trans (List.sublist_append_right _ _)
  | same _ ih => exact ih.trans (List.sublist_append_right _ _)
  | flat _ _ ih => exact ih.append_left _
theorem Bor.slots {K : PySem.W.Frag} [HasTabs K] {D2 D3 H H2 : Hp} {r r1 rf : Rh} (h : Bor r r1 rf) : ∀ {σ : L2.St}, Slots K D3 H σ r → Slots K D2 H2 σ r1 → Slots K D3 H2 σ rf := by
  induction h with
  | nil => intro σ s _; cases s; exact .nil
  | none _ ih => intro σ s t; cases s <;> cases t <;> exact .skip (ih (by assumption) (by assumption))
  | same _ ih =>
    intro σ s t
    cases s with
    | cons g s =>
      cases g with
      | d g => cases t <;> exact .cons (.d g) (ih s (by assumption))
  | flat k _ ih =>
    intro σ s t
    cases t with
    | cons g t => cases s <;> exact .cons (flat_den g k) (ih (by assumption) t)
section
variable {K : PySem.W.Frag} [HasTabs K] {D H H1 : Hp} {T : Tm} {σ : L2.St} {ρ : Rh}
theorem Sd.holds (h : Sd K D H T σ ρ) : ∀ a ∈ fpT T ++ fpR ρ, ∃ u, H a = some u ∧ plainO u = true := by
  intro a ha
  rcases List.mem_append.mp ha with z | z
  · have key : ∀ (T : Tm), (∀ p ∈ T, DenO K D H p.1 p.2) → a ∈ fpT T → ∃ u, H a = some u ∧ plainO u = true := by
      intro T
      induction T with
      | nil => intro _ z; exact absurd (show a ∈ ([] : List Addr) from z) (by simp)
      | cons x T ih =>
        intro q z
        rcases List.mem_append.mp z with z | z
        · exact (q x List.mem_cons_self).holds a z
        · exact ih (fun p hp => q p (List.mem_cons_of_mem _ hp)) z
    exact key T h.tm z
  · have key : ∀ {σ : L2.St} {ρ : Rh}, Slots K D H σ ρ → a ∈ fpR ρ → ∃ u, H a = some u ∧ plainO u = true := by
      intro σ ρ s
      induction s with
      | nil => intro z; exact absurd (show a ∈ ([] : List Addr) from z) (by simp)
      | skip r ih => intro z; exact ih z
      | cons r s ih =>
        intro z
        rcases List.mem_append.mp z with z | z
        · exact r.holds a z
        · exact ih z
    exact key h.sl z
/-- an address that neither L nor the tables name is none of D's -/
theorem with_none {Dr H2 : Hp} {a : Addr} {u : HO} (h : H2 a = some u) (k : plainO u = true) (n : Dr a = none) : withTabs Dr H2 a = none := by
  cases e : withTabs Dr H2 a with
  | none => rfl
  | some u2 =>
    rcases withTabs_of e with ⟨h1, k2⟩ | ⟨h1, _⟩
    · rw [h] at h1
      cases h1
      rw [k] at k2
      exact nomatch k2
    · rw [n] at h1
      exact nomatch h1
theorem tabs_with {Dr H2 : Hp} {L : List (Addr × Str)} (t : LamX.Tabs L H2) : LamX.Tabs L (withTabs Dr H2) := fun p hp => by
  obtain ⟨ps, h1, h2, h3⟩ := t p hp
  refine ⟨ps, withTabs_odd h1 rfl, h2, fun pos cv hc => ?_⟩
  obtain ⟨c, e1, e2⟩ := h3 pos cv hc
  exact ⟨c, e1, withTabs_odd e2 rfl⟩
theorem pins_of {H : Hp} : ∀ {F : List Addr}, (∀ a ∈ F, ∃ u, H a = some u ∧ plainO u = true) → ∃ LF : List (Addr × HO), (∀ p ∈ LF, p.1 ∈ F ∧ H p.1 = some p.2 ∧ plainO p.2 = true) ∧ ∀ a ∈ F, ∃ u, (a, u) ∈ LF
  | [], _ => ⟨[], fun p hp => absurd hp List.not_mem_nil, fun a ha => absurd ha List.not_mem_nil⟩
  | b :: F, h => by
    obtain ⟨u, h1, h2⟩ := h b List.mem_cons_self
    obtain ⟨LF, k1, k2⟩ := pins_of (F := F) fun a ha => h a (List.mem_cons_of_mem _ ha)
    refine ⟨(b, u) :: LF, fun p hp => ?_, fun a ha => ?_⟩
    · rcases List.mem_cons.mp hp with rfl | z
      · exact ⟨List.mem_cons_self, h1, h2⟩
      · exact ⟨List.mem_cons_of_mem _ (k1 p z).1, (k1 p z).2⟩
    · rcases List.mem_cons.mp ha with rfl | z
      · exact ⟨u, List.mem_cons_self⟩
      · obtain ⟨w, hw⟩ := k2 a z
        exact ⟨w, List.mem_cons_of_mem _ hw⟩
def pinT (L : List (Addr × HO)) : Tm := L.map fun p => (V.non, Ow.q p.1 p.2)
theorem pinT_fp : ∀ L : List (Addr × HO), fpT (pinT L) = []
  | [] => rfl
  | p :: L => by
    show ([] : List Addr) ++ fpT (pinT L) = []
    rw [pinT_fp L]
    rfl
theorem pinT_at {L : List (Addr × HO)} (h : ∀ p ∈ pinT L, DenO K D H p.1 p.2) : ∀ p ∈ L, D p.1 = some p.2 := fun p hp => by
  have := h (V.non, Ow.q p.1 p.2) (List.mem_map.mpr ⟨p, hp, rfl⟩)
  cases this with
  | q e _ => exact e
open Classical in
/-- x, an owned list, read as data by an expression that gives an atom: behind it x is as it was -/
theorem ev_lend {E : XK} {te : TE} {P : EPost} {i : Nat} {a : Addr} {xs : List Ow} (e : ρ[i]? = some (some (.l a xs))) (ok : okRs xs = true)
    (h : EvP K E te (ρ.set i (some (.d (.lst (dats xs))))) (fun r ρ1 => ∃ d rf, r = .ok (.d d) ∧ d.atm = true ∧ Bor (ρ.set i (some (.d (.lst (dats xs))))) ρ1 rf ∧ P (.ok (.d d)) (rf.set i (some (.l a xs))))) : EvP K E te ρ P := by
  intro D H T σ Q s k xo
  obtain ⟨v0, hv0, hO⟩ := s.sl.get e
  have ev0 : v0 = .ref a := by cases hO; rfl
  subst ev0
  have hil : i < ρ.length := (List.getElem?_eq_some_iff.mp e).1
  have hperm : (fpR ρ).Perm ((Ow.l a xs).fp ++ fpR (ρ.set i none)) := fpR_none e
  obtain ⟨LT, hLT, kT⟩ := tm_sup s.tm
  obtain ⟨LS, hLS, kS⟩ := s.sl.sup
  have hF : ∀ b ∈ fpT T ++ (Ow.l a xs).fp, b ∈ fpT T ++ fpR ρ := fun b hb => by
    rcases List.mem_append.mp hb with z | z
    · exact List.mem_append_left _ z
    · exact List.mem_append_right _ (hperm.mem_iff.mpr (List.mem_append_left _ z))
  obtain ⟨LF, hLF, kF⟩ := pins_of (H := H) (F := fpT T ++ (Ow.l a xs).fp) fun b hb => s.holds b (hF b hb)
  obtain ⟨F, eF⟩ : ∃ F, F = fpT T ++ (Ow.l a xs).fp := ⟨_, rfl⟩
  obtain ⟨Dc, eDc⟩ : ∃ Dc : Hp, Dc = fun b => if b ∈ F then H b else D b := ⟨_, rfl⟩
  have exD : Ex D Dc := fun b u hb => by
    rw [eDc]
    show (if b ∈ F then H b else D b) = some u
    by_cases z : b ∈ F
    · rw [if_pos z]; exact s.ex b u hb
    · rw [if_neg z]; exact hb
  have exH : Ex Dc H := fun b u hb => by
    rw [eDc] at hb
    have hb : (if b ∈ F then H b else D b) = some u := hb
    by_cases z : b ∈ F
    · rw [if_pos z] at hb; exact hb
    · rw [if_neg z] at hb; exact s.ex b u hb
  have inF : ∀ b ∈ F, Dc b = H b := fun b hb => by
    rw [eDc]
    exact if_pos hb
  have hden : Den K Dc (.ref a) (.lst (dats xs)) := by
    have h1 : DenO K Dc Dc (.ref a) (.l a xs) := hO.keep exD fun b hb u hu => by
      rw [inF b (by rw [eF]; exact List.mem_append_right _ hb)]
      exact hu
    exact h1.read (Ex.refl _) (by unfold Ow.okR; exact ok)
  have hpm2 : (fpR (ρ.set i (some (.d (.lst (dats xs)))))).Perm (fpR (ρ.set i none)) := fpR_set _ hil
  have nd1 : ((Ow.l a xs).fp ++ fpR (ρ.set i none)).Nodup := hperm.nodup_iff.mp (List.nodup_append.mp s.nd).2.1
  have ndx : ∀ b ∈ fpR (ρ.set i none), b ∉ F := fun b hb z => by
    rw [eF] at z
    rcases List.mem_append.mp z with z | z
    · exact (List.nodup_append.mp s.nd).2.2 b z b (hperm.mem_iff.mpr (List.mem_append_right _ hb)) rfl
    · exact (List.nodup_append.mp nd1).2.2 b z b hb rfl
  have sc : Sd K Dc H (pinT (LT ++ LS ++ LF)) σ (ρ.set i (some (.d (.lst (dats xs))))) := by
    refine ⟨exH, fun p hp => ?_, (s.sl.keep exD fun _ _ _ z => z).put hv0 (.d hden), ?_, fun b hb => ?_, s.tb.ext exD⟩
    · obtain ⟨p0, hp0, rfl⟩ := List.mem_map.mp hp
      rcases List.mem_append.mp hp0 with z | z
      · rcases List.mem_append.mp z with z | z
        · exact .q (exD _ _ (hLT p0 z).1) (hLT p0 z).2
        · exact .q (exD _ _ (hLS p0 z).1) (hLS p0 z).2
      · have := hLF p0 z
        exact .q (by rw [inF _ (by rw [eF]; exact this.1)]; exact this.2.1) this.2.2
    · rw [pinT_fp, List.nil_append]
      exact hpm2.nodup_iff.mpr (List.nodup_append.mp nd1).2.1
    · rw [pinT_fp, List.nil_append] at hb
      have hb := hpm2.mem_iff.mp hb
      rw [eDc]
      show (if b ∈ F then H b else D b) = none
      rw [if_neg (ndx b hb)]
      exact s.out b (List.mem_append_right _ (hperm.mem_iff.mpr (List.mem_append_right _ hb)))
  refine h Dc H _ σ _ sc (fun v o ρ1 D2 H2 q s2 => ?_) fun C fs ρ' D' H' d q _ _ => by
    obtain ⟨_, _, z, _⟩ := q
    exact nomatch z
  obtain ⟨d, rf, eo, hat, hbor, q⟩ := q
  cases eo
  have pins := pinT_at fun p hp => s2.tm p (List.mem_cons_of_mem _ hp)
  have hFH : ∀ b ∈ F, H2 b = H b := fun b hb => by
    rw [eF] at hb
    obtain ⟨u, hu⟩ := kF b hb
    have h1 := pins (b, u) (List.mem_append_right _ hu)
    have h2 := (hLF (b, u) hu).2.1
    rw [s2.ex _ _ h1]
    exact h2.symm
  have pinF : ∀ b ∈ F, ∃ u, D2 b = some u := fun b hb => by
    rw [eF] at hb
    obtain ⟨u, hu⟩ := kF b hb
    exact ⟨u, pins (b, u) (List.mem_append_right _ hu)⟩
  obtain ⟨Ls, eLs⟩ : ∃ Ls, Ls = LT ++ LS := ⟨_, rfl⟩
  have hLs : ∀ p ∈ Ls, D p.1 = some p.2 ∧ plainO p.2 = true ∧ D2 p.1 = some p.2 := fun p hp => by
    rw [eLs] at hp
    have h2 := pins p (List.mem_append_left _ hp)
    rcases List.mem_append.mp hp with z | z
    · exact ⟨(hLT p z).1, (hLT p z).2, h2⟩
    · exact ⟨(hLS p z).1, (hLS p z).2, h2⟩
  obtain ⟨Dr, eDr⟩ : ∃ Dr : Hp, Dr = fun b => if (∃ u, (b, u) ∈ Ls) then D b else none := ⟨_, rfl⟩
  have drIn : ∀ p ∈ Ls, Dr p.1 = some p.2 := fun p hp => by
    rw [eDr]
    show (if (∃ u, (p.1, u) ∈ Ls) then D p.1 else none) = some p.2
    rw [if_pos ⟨p.2, hp⟩]
    exact (hLs p hp).1
  have drOf : ∀ b u, Dr b = some u → D b = some u ∧ D2 b = some u := fun b u hb => by
    rw [eDr] at hb
    have hb : (if (∃ u, (b, u) ∈ Ls) then D b else none) = some u := hb
    by_cases z : ∃ u, (b, u) ∈ Ls
    · rw [if_pos z] at hb
      obtain ⟨w, hw⟩ := z
      have h1 := hLs (b, w) hw
      have e1 : some w = some u := h1.1.symm.trans hb
      cases e1
      exact ⟨hb, h1.2.2⟩
    · rw [if_neg z] at hb
      exact nomatch hb
  have d3 : ∀ p ∈ Ls, withTabs Dr H2 p.1 = some p.2 := fun p hp => withTabs_plain (drIn p hp) (s2.ex _ _ (hLs p hp).2.2) (hLs p hp).2.1
  have ex3 : Ex (withTabs Dr H2) H2 := fun b u hb => by
    rcases withTabs_of hb with ⟨h1, _⟩ | ⟨h1, _⟩
    · exact h1
    · exact s2.ex _ _ (drOf b u h1).2
  have ndrop : ∀ b, D b = none → Dr b = none := fun b hb => by
    cases z : Dr b with
    | none => rfl
    | some u => rw [(drOf b u z).1] at hb; exact nomatch hb
  have ndrop2 : ∀ b, D2 b = none → Dr b = none := fun b hb => by
    cases z : Dr b with
    | none => rfl
    | some u => rw [(drOf b u z).2] at hb; exact nomatch hb
  have hsub := hbor.sub
  have hrl : rf.length = ρ.length := by
    have key : ∀ {r r1 rf : Rh}, Bor r r1 rf → rf.length = r.length := by
      intro r r1 rf b
      induction b with
      | nil => rfl
      | none _ ih => simp [ih]
      | same _ ih => simp [ih]
      | flat _ _ ih => simp [ih]
    have := key hbor
    rw [List.length_set] at this
    exact this
  have out1 : ∀ b ∈ fpR rf, D2 b = none := fun b hb => s2.out b (List.mem_append_right _ (hsub.mem hb))
  have nd2 : (fpR rf).Nodup := ((List.nodup_append.mp s2.nd).2.1).sublist hsub
  have pmf : (fpR (rf.set i (some (.l a xs)))).Perm ((Ow.l a xs).fp ++ fpR (rf.set i none)) := fpR_set _ (by omega)
  have subn : (fpR (rf.set i none)).Sublist (fpR rf) := by
    have key : ∀ (r : Rh) (i : Nat), (fpR (r.set i none)).Sublist (fpR r) := by
      intro r
      induction r with
      | nil => intro i; exact List.nil_sublist _
      | cons x r ih =>
        intro i
        cases i with
        | zero => exact List.sublist_append_right _ _
        | succ i => exact (ih i).append_left _
    exact key rf i
  have disj : ∀ b ∈ F, b ∉ fpR rf := fun b hb z => by
    obtain ⟨u, hu⟩ := pinF b hb
    rw [out1 b z] at hu
    exact nomatch hu
  have slf : Slots K (withTabs Dr H2) H2 σ (rf.set i (some (.l a xs))) := by
    have t0 : Slots K (withTabs Dr H2) H σ ρ := kS _ fun p hp => d3 p (by rw [eLs]; exact List.mem_append_right _ hp)
    obtain ⟨w, hw, hl3⟩ := t0.get e
    rw [hv0] at hw
    cases hw
    have hl4 : DenO K (withTabs Dr H2) H2 (.ref a) (.l a xs) := hl3.keep (Ex.refl _) fun b hb u hu => by
      rw [hFH b (by rw [eF]; exact List.mem_append_right _ hb)]
      exact hu
    have e1 : Slots K (withTabs Dr H2) H2 σ (rf.set i none) := by
      have key : ∀ {r r1 rf : Rh}, Bor r r1 rf → ∀ (i : Nat) (x : Ow) (r0 : Rh), r = r0.set i (some x) → ∀ {σ : L2.St}, Slots K (withTabs Dr H2) H σ r0 → Slots K D2 H2 σ r1 → Slots K (withTabs Dr H2) H2 σ (rf.set i none) := by
        intro r r1 rf b
        induction b with
        | nil =>
          intro i x r0 er σ t0 t1
          cases t1
          exact .nil
        | none bb ih =>
          intro i x r0 er σ t0 t1
          cases r0 with
          | nil => simp at er
          | cons y0 r0 =>
            cases i with
            | zero =>
              have : _ = r0 := (List.cons.inj er).2
              subst this
              cases t0 <;> cases t1 <;> exact .skip (bb.slots (by assumption) (by assumption))
            | succ i => cases t0 <;> cases t1 <;> exact .skip (ih i x r0 (List.cons.inj er).2 (by assumption) (by assumption))
        | same bb ih =>
          intro i x r0 er σ t0 t1
          cases r0 with
          | nil => simp at er
          | cons y0 r0 =>
            cases i with
            | zero =>
              have : _ = r0 := (List.cons.inj er).2
              subst this
              cases t0 <;> cases t1 <;> exact .skip (bb.slots (by assumption) (by assumption))
            | succ i =>
              have e0 := (List.cons.inj er).1
              subst e0
              cases t0 with
              | cons g t0 =>
                cases g with
                | d g => cases t1 <;> exact .cons (.d g) (ih i x r0 (List.cons.inj er).2 t0 (by assumption))
        | flat kk bb ih =>
          intro i x r0 er σ t0 t1
          cases r0 with
          | nil => simp at er
          | cons y0 r0 =>
            cases i with
            | zero =>
              have : _ = r0 := (List.cons.inj er).2
              subst this
              cases t0 <;> cases t1 <;> exact .skip (bb.slots (by assumption) (by assumption))
            | succ i =>
              cases t1 with
              | cons g t1 => cases t0 <;> exact .cons (flat_den g kk) (ih i x r0 (List.cons.inj er).2 (by assumption) t1)
      exact key hbor i _ ρ rfl t0 s2.sl
    have := e1.put hv0 hl4
    rw [List.set_set] at this
    exact this
  have sf : Sd K (withTabs Dr H2) H2 ((v, .d d) :: T) σ (rf.set i (some (.l a xs))) := by
    refine ⟨ex3, fun p hp => ?_, slf, ?_, fun b hb => ?_, tabs_with (s2.tb.ext s2.ex)⟩
    · rcases List.mem_cons.mp hp with rfl | z
      · have := s2.tm (v, .d d) List.mem_cons_self
        cases this with
        | d g => exact .d (g.atm hat)
      · have := kT _ (fun p hp => d3 p (by rw [eLs]; exact List.mem_append_left _ hp)) p z
        exact this.keep (Ex.refl _) fun b hb u hu => by
          rw [hFH b (by rw [eF]; exact List.mem_append_left _ (mem_fpT z hb))]
          exact hu
    · show (([] ++ fpT T) ++ fpR _).Nodup
      rw [List.nil_append]
      refine (pmf.append_left (fpT T)).nodup_iff.mpr ?_
      rw [← List.append_assoc, ← eF, List.nodup_append]
      refine ⟨?_, nd2.sublist subn, fun b hb c hc z => ?_⟩
      · rw [eF]
        have n1 : (fpT T ++ ((Ow.l a xs).fp ++ fpR (ρ.set i none))).Nodup := (hperm.append_left (fpT T)).nodup_iff.mp s.nd
        rw [← List.append_assoc] at n1
        exact (List.nodup_append.mp n1).1
      · subst z
        exact disj b hb (subn.mem hc)
    · have hb : b ∈ fpT T ++ fpR (rf.set i (some (.l a xs))) := hb
      have hcase : b ∈ F ∨ b ∈ fpR rf := by
        rcases List.mem_append.mp hb with z | z
        · exact .inl (by rw [eF]; exact List.mem_append_left _ z)
        · rcases List.mem_append.mp (pmf.mem_iff.mp z) with z | z
          · exact .inl (by rw [eF]; exact List.mem_append_right _ z)
          · exact .inr (subn.mem z)
      rcases hcase with z | z
      · obtain ⟨u, hu, ku⟩ := s.holds b (hF b (by rw [← eF]; exact z))
        exact with_none (by rw [hFH b z]; exact hu) ku (ndrop b (s.out b (hF b (by rw [← eF]; exact z))))
      · obtain ⟨u, hu, ku⟩ := s2.holds b (List.mem_append_right _ (hsub.mem z))
        exact with_none hu ku (ndrop2 b (out1 b z))
  exact k v (.d d) _ _ H2 q sf
end
end DL

/-! ### Mp. xs[j] += e, xs.pop(j), '0' * n; several clauses, an answer of any kind -/
namespace DL
open PySem L2 Evl PySem.Spec PyProof.Rows
/-! xs[j] as it is read before it is written -/
def rGetL : V → V → Hp → VK → Prop := fun o i H Q => ∃ p xs k z, o = .ref p ∧ i = .int k ∧ H p = some (.lst xs) ∧ atI xs k = some z ∧ Q z H
theorem get_list {X : Cx} : PGet X rGetL := by
  intro pins s σ H o i ov iv Q I ro ri h
  obtain ⟨p, xs, k, z, rfl, rfl, hp, he, q⟩ := h
  cases ro
  obtain ⟨t, rfl⟩ := ri
  obtain ⟨its, n, r, ho, hz⟩ := I.lst hp
  obtain ⟨j, h1, h2, h3, h4, h5⟩ := atI_get he
  obtain ⟨w, ew, rw'⟩ := r.get h2
  have hl := r.length
  have hn := line63
  have pl : s.heap.IsList p its.toArray := ⟨_, ho, rfl, n, rfl⟩
  have fin : EP X pins σ Q w s := ⟨z, H, I, rw', q⟩
  by_cases h0 : 0 ≤ k
  · have hj : k.toNat = j := by
      rw [seqIndex_of h0 h5] at h1
      exact Option.some.inj h1
    exact wpAny_getItem_list pl h0 (by omega) (by rw [hj]; simpa using ew) fin
  · have hj : (k + (its.toArray.size : Int)).toNat = j := by
      rw [seqIndex_neg (by omega) h4] at h1
      rw [List.size_toArray, ← hl]
      exact Option.some.inj h1
    exact wpAny_getItem_list_neg pl (by omega) (by rw [List.size_toArray]; omega) (by omega) (by rw [hj]; simpa using ew) fin
section
variable {K : PySem.W.Frag} [HasTabs K] {E : XK} {ρ : Rh} {P : EPost} {S : SPost} {te ti : TE} {i : Nat}
theorem sv_augS {f : Int → Int → Int} (hi : ∃ a xs, ρ[i]? = some (some (.l a xs))) (h : EvP K E ti ρ (bndS (fun y ρ1 => ρ1 = ρ ∧ ∃ (a : Addr) (ns : List Int) (j : Nat) (m : Int), y = .d (.int ((j : Nat) : Int)) ∧ ρ[i]? = some (some (.l a ((ns.map Dat.int).map Ow.d))) ∧ ns[j]? = some m ∧
      EvP K E te ρ (bndS (fun z ρ2 => ρ2 = ρ ∧ ∃ n : Int, z = .d (.int n) ∧ S (.nx (ρ.set i (some (.l a (((ns.set j (f m n)).map Dat.int).map Ow.d)))))) S)) S)) : SvP K E (tAugS (tVar i) ti te rGetL (ipI f) rSetL) ρ S := by
  intro D H T σ En s w
  obtain ⟨a0, xs0, e0⟩ := hi
  obtain ⟨s0, _⟩ := s.getl e0
  refine ⟨.ref a0, s0, ?_⟩
  refine h D H T σ _ s (fun y o ρ1 D1 H1 q1 g => ?_) (.ofWd w fun _ _ _ z => z)
  obtain ⟨rfl, a, ns, j, m, rfl, e, ej, q1⟩ := q1
  rw [e0] at e
  cases e
  have hy := g.tm (y, _) List.mem_cons_self
  cases hy with
  | d hy =>
    cases hy
    obtain ⟨_, vs, ha, hv⟩ := g.pop.getl e0
    have hvs := hv.toAll.ints
    subst hvs
    refine ⟨a0, _, (j : Int), .int m, rfl, rfl, ha, at_nat (by rw [List.getElem?_map, ej]; rfl), ?_⟩
    refine q1 D1 H1 _ σ _ g (fun z o2 ρ2 D2 H2 q2 g2 => ?_) (XOk.sub1 (XOk.ofWd w fun _ _ _ z => z) fun _ _ _ z => z)
    obtain ⟨rfl, n, rfl, q2⟩ := q2
    have hz := g2.tm (z, _) List.mem_cons_self
    cases hz with
    | d hz =>
      cases hz
      have g3 := g2.pop.pop
      obtain ⟨_, vs, ha2, hv2⟩ := g3.getl e0
      have hvs := hv2.toAll.ints
      subst hvs
      have hjl : j < ns.length := (List.getElem?_eq_some_iff.mp ej).1
      refine ⟨m, n, rfl, rfl, a0, _, (j : Int), j, rfl, rfl, ha2, ixN_nat (by rw [List.length_map]; exact hjl), w.nx _ D2 _ σ q2 ?_⟩
      have gn : DenOs K D2 H2 ((ns.map V.int).set j (.int (f m n))) (((ns.set j (f m n)).map Dat.int).map Ow.d) := by
        rw [← List.map_set]
        exact DenOs.ofAll (DenAll.ofInts _)
      have e1 := fpR_none e0
      refine g3.write (L := fpT T) e0 gn (fun p hp => .inl hp) (fun b hb z => ?_) (by rw [fps_map]; exact List.Perm.refl _) ?_ (fun b hb => g3.out b (List.mem_append_left _ hb))
      · rw [fps_map] at hb
        have q3 : (fpT T ++ ((a0 :: fps ((ns.map Dat.int).map Ow.d)) ++ fpR (ρ2.set i none))).Nodup := (e1.append_left _).nodup_iff.mp g3.nd
        have q4 := (List.nodup_append.mp q3).2.2 b hb a0 (by simp)
        exact q4 z
      · have q3 : (fpT T ++ ((a0 :: fps ((ns.map Dat.int).map Ow.d)) ++ fpR (ρ2.set i none))).Nodup := (e1.append_left _).nodup_iff.mp g3.nd
        rw [fps_map] at q3
        exact q3
/-- xs.pop(j), of data -/
theorem ev_popA (h : ∃ a xs, ρ[i]? = some (some (.l a xs)) ∧ EvP K E te ρ (bnd (fun y ρ1 => ∃ (ds : List Dat) (j : Nat) (d : Dat), ρ1[i]? = some (some (.l a (ds.map Ow.d))) ∧ y = .d (.int ((j : Nat) : Int)) ∧ ds[j]? = some d ∧ ds.length ≤ 100000 ∧ P (.ok (.d d)) (ρ1.set i (some (.l a ((ds.eraseIdx j).map Ow.d))))) P)) : EvP K E (tBM K "list" rPopAt (tVar i) (tCons te tNil)) ρ P := by
  intro D H T σ Q s k xo
  obtain ⟨a, xs, e, h⟩ := h
  obtain ⟨s1, vs, ha, hv⟩ := s.getl e
  refine ⟨.ref a, s1, tyv ha, ?_⟩
  refine h D H T σ _ s (fun y o ρ1 D1 H1 q1 g => ?_) (xo.sub0 fun _ _ _ z => z)
  obtain ⟨ds, j, d, e1, rfl, ej, hl, q⟩ := q1
  have hy := g.tm (y, _) List.mem_cons_self
  cases hy with
  | d hy =>
    cases hy
    have g0 := g.pop
    obtain ⟨_, us, ha1, hu⟩ := g0.getl e1
    obtain ⟨w, hw, dw⟩ := hu.toAll.get ej
    have hjl : j < us.length := (List.getElem?_eq_some_iff.mp hw).1
    have hul : us.length = ds.length := hu.toAll.length
    have hsi : seqIndex? (j : Int) us.length = some j := by
      rw [seqIndex_of (by omega) (by omega)]
      rfl
    refine ⟨a, us, (j : Int), j, w, rfl, rfl, ha1, by omega, by omega, hsi, hw, ?_⟩
    have gn : DenOs K D1 H1 (us.eraseIdx j) ((ds.eraseIdx j).map Ow.d) := by
      have key : ∀ {us : List V} {ds : List Dat} (j : Nat), DenAll K D1 us ds → DenAll K D1 (us.eraseIdx j) (ds.eraseIdx j) := by
        intro us ds j h
        induction j generalizing us ds with
        | zero => cases h with
          | nil => exact .nil
          | cons a b => exact b
        | succ j ih => cases h with
          | nil => exact .nil
          | cons a b => exact .cons a (ih b)
      exact DenOs.ofAll (key j hu.toAll)
    have ef := fpR_none e1
    have q3 : (fpT T ++ ((a :: fps (ds.map Ow.d)) ++ fpR (ρ1.set i none))).Nodup := (ef.append_left _).nodup_iff.mp g0.nd
    have g1 := g0.write (L := fpT T) e1 gn (fun p hp => .inl hp) (fun b hb z => by
      rw [fps_map] at hb
      exact (List.nodup_append.mp q3).2.2 b hb a (by simp) z) (by rw [fps_map]; exact List.Perm.refl _) (by rw [fps_map] at q3; exact q3) (fun b hb => g0.out b (List.mem_append_left _ hb))
    exact k _ _ _ _ _ q (g1.push dw)
end
/-! a string repeated -/
def strRep (x : Str) (n : Int) : Str := if n < 1 then Str.empty else if (n == 1 || x.length == 0) = true then x else ⟨(List.replicate n.toNat x.cps).foldl (· ++ ·) #[]⟩
def rRepS : R2 := fun x y H Q => ∃ (z : Str) (n : Int), x = .str z ∧ y = .int n ∧ 0 ≤ n ∧ n ≤ 1000 ∧ z.length ≤ 1000 ∧ (strRep z n).length ≤ 1000000 ∧ Q (.str (strRep z n)) H
theorem op_repS {X : Cx} : OpR X (binaryOp .Mult) rRepS := by
  intro pins s σ H x y v u Q I rx ry h
  obtain ⟨z, n, rfl, rfl, h0, h1, hz, hr, q⟩ := h
  obtain ⟨t, rfl⟩ := rx
  obtain ⟨t', rfl⟩ := ry
  have hb : z.length * n.toNat ≤ 1000 * 1000 := Nat.mul_le_mul hz (by omega)
  refine P.mul_str ?_ (fun h2 h3 => ?_) (fun h2 h3 => ?_) ?_
  · rw [decide_eq_false (by omega), decide_eq_false (by omega)]; rfl
  · have : (1000 : Int) ≤ (2 ^ 63 - 1) / n := by
      rw [Int.le_ediv_iff_mul_le (by omega)]
      have : 1000 * n ≤ 1000000 := by omega
      omega
    omega
  · show decide (z.length * n.toNat > sizeLine) = false
    rw [sizeLine_eq]
    exact decide_eq_false (by omega)
  · unfold strRep at hr q
    by_cases c : n < 1
    · rw [if_pos c] at hr q ⊢
      exact ⟨by decide, .str Str.empty, H, I.tok _, ⟨_, rfl⟩, q⟩
    · rw [if_neg c] at hr q ⊢
      by_cases c2 : (n == 1 || z.length == 0) = true
      · rw [if_pos c2] at hr q ⊢
        exact ⟨.str z, H, I, ⟨_, rfl⟩, q⟩
      · rw [if_neg c2] at hr q ⊢
        exact ⟨by rw [sizeLine_eq]; omega, .str _, H, I.tok _, ⟨_, rfl⟩, q⟩
section
variable {K : PySem.W.Frag} [HasTabs K] {E : XK} {ρ : Rh} {P : EPost} {ta tb : TE}
theorem ev_repS (h : EvP K E ta ρ (bnd (fun x ρ1 => EvP K E tb ρ1 (bnd (fun y ρ2 => ∃ (z : Str) (n : Int), x = .d (.str z) ∧ y = .d (.int n) ∧ 0 ≤ n ∧ n ≤ 1000 ∧ z.length ≤ 1000 ∧ (strRep z n).length ≤ 1000000 ∧ P (.ok (.d (.str (strRep z n)))) ρ2) P)) P)) : EvP K E (tOp rRepS ta tb) ρ P := by
  refine ev_op ?_
  refine h.mono fun r ρ1 q => ?_
  cases r with
  | ex C fs => exact q
  | ok x =>
    refine EvP.mono (P := _) q fun r ρ2 q => ?_
    cases r with
    | ex C fs => exact q
    | ok y =>
      obtain ⟨z, n, rfl, rfl, h0, h1, hz, hr, q⟩ := q
      exact ⟨rfl, rfl, _, ⟨rfl, fun H v w Q h1' h2' q => by cases h1'; cases h2'; exact ⟨z, n, rfl, rfl, h0, h1, hz, hr, q⟩⟩, q⟩
/-- int(b), a truth value -/
theorem ev_intB {tas : TA} (h : AvP K E tas ρ (fun os ρ1 => ∃ b : Bool, os = [.d (.bl b)] ∧ P (.ok (.d (.int (if b then 1 else 0)))) ρ1) P) : EvP K E (tCB rInt1 tas) ρ P :=
  ev_cb (h.mono fun os ρ1 ⟨b, e, q⟩ => by
    subst e
    exact ⟨rfl, _, ⟨rfl, fun H xs Q h1 q => by
      cases h1 with
      | cons a r =>
        cases r
        cases a
        exact .inr ⟨b, rfl, q⟩⟩, q⟩)
end
/-! several clauses, each with an answer of its own; behind the ask nothing is returned -/
structure ClT where
  C : Addr
  te : Addr → Value → Option Addr → TE
def clL (cs : List ClT) : List (Value × (Addr → Value → Option Addr → TS)) := cs.map fun c => (.ref c.C, fun a cls d => tRet (c.te a cls d))
/-- what a clause makes of an error -/
def Tells (K : PySem.W.Frag) [HasTabs K] (te : Addr → Value → Option Addr → TE) (C : Addr) (fs : List (Str × Dat)) (x : Dat) : Prop :=
  ∀ (ρ : Rh) (D H : Hp) (T : Tm) (σ σ1 : L2.St) (a d : Addr) (Q : VK), Sd K D H T σ ρ → XAt K D H d fs → σ1[1]? = some (some (.ref a)) → (∀ v D' H', Sd K D' H' ((v, .d x) :: T) σ ρ → Q v H') → te a (.ref C) (some d) σ1 H Q
def ApartT (K : PySem.W.Frag) (cs : List ClT) : Prop := ∀ c ∈ cs, ∀ c' ∈ cs, PySem.W.exmOne K (.ref c.C) (.ref c'.C) = some (decide (c'.C = c.C))
/-- try: a() / except X as n: return .. / .. / return None -/
def TTm (K : PySem.W.Frag) (cs : List ClT) : (XK → Hp → VK → Prop) → Hp → VK → Prop := fun tl H Q =>
  tl (fun cls d H' => ∀ σ : L2.St, σ.length = 2 → wAll K (fun _ _ _ _ => False) 1 { nx := fun _ H' => Q .non H', rt := Q } (clL cs) cls d σ H') H (fun _ H' => Q .non H')
theorem many_gives {X : Cx} {x a n q : Str} {sg : Scope} {g : Addr} {cdg : Value} {k0 : Nat} {p1 p2 p3 p7 p8 p9 : Pos} {h0 : ExceptHandler} {hs : List ExceptHandler} {cs : List ClT} (na : a ≠ n) (loc : sg.names.lookup n = some .local)
    (hh : ∀ (s : Shared) (H : Hp), Hands' (cxOf C8.CX0 X.prog X.w X.K X.mg X.base [a, n] x sg g cdg X.A X.stack s H C8.E0).nox n (h0 :: hs) (clL cs)) :
    LamX.GivesTo X [a, n] x sg g cdg [.Try [.Expr (.Call (.Name a p1) [] [] p2) p3] (h0 :: hs) [] [] p7, .Return (some (.Constant .none k0 p8)) p9] a q (TTm X.K cs) := by
  intro f c' s H Q tl act hc h
  refine ⟨_, pss_cons (ps_tryAll (X := (cxOf C8.CX0 X.prog X.w X.K X.mg X.base [a, n] x sg g cdg X.A X.stack s H C8.E0).nox) (n := n) (i := 1) (l := clL cs)
      (tb := fun W D σ H => ∃ Ech : XK, (∀ cls d σ' H', Ech cls d H' → (σ'.length = 2 → W cls d σ' H')) ∧ σ[0]? = some (some (.ref f)) ∧ H c' = some (LamX.CodeO c' q) ∧ tl Ech H (fun _ H' => D.nx σ H'))
      rfl rfl (by show [a, n].Nodup; simp [na]) rfl loc LamX.takes0 (fun W pn xe tk _ => ?_) (hh s H)) (pss_one (ps_ret pe_non)), ?_⟩
  · refine ⟨fun pn2 s' σ H' D I z => ?_⟩
    obtain ⟨Ech, hW, h1, h2, h3⟩ := z
    have hp := act _ pn xe Ech p1 p2 (takes_len tk) hW
    exact (pss_one (ps_expr (pos := p3) hp)).run pn2 s' σ H' D I ⟨h1, h2, h3⟩
  · exact ⟨_, fun cls d σ' H' z hl => z σ' hl, rfl, hc, h⟩
section
variable {K : PySem.W.Frag} [HasTabs K] {E : XK} {t : XK → TE} {ρ : Rh} {P : EPost} {cs : List ClT}
theorem wMany_ok {D H : Hp} {T : Tm} {σ σ0 : L2.St} {C d : Addr} {fs : List (Str × Dat)} {x : Dat} {Q : VK} {c0 : ClT} (ap : ApartT K cs) (m0 : c0 ∈ cs) (hC : c0.C = C) (hn : (cs.map ClT.C).Nodup) (s : Sd K D H T σ ρ) (xa : XAt K D H d fs) (hx : Tells K c0.te C fs x) (k : ∀ v D' H', Sd K D' H' ((v, .d x) :: T) σ ρ → Q v H') (h2 : σ0.length = 2) :
    wAll K (fun _ _ _ _ => False) 1 { nx := fun _ H' => Q .non H', rt := Q } (clL cs) (.ref C) (some d) σ0 H := by
  subst hC
  have go : ∀ r : List ClT, (∀ c ∈ r, c ∈ cs) → c0 ∈ r → (r.map ClT.C).Nodup → wAll K (fun _ _ _ _ => False) 1 { nx := fun _ H' => Q .non H', rt := Q } (clL r) (.ref c0.C) (some d) σ0 H := by
    intro r
    induction r with
    | nil => intro _ h _; exact absurd h List.not_mem_nil
    | cons c r ih =>
      intro hm h nd
      refine ⟨_, ap c0 m0 c (hm c List.mem_cons_self), fun y a ha => ?_, fun y => ?_⟩
      · have y : c.C = c0.C := of_decide_eq_true y
        have ec : c = c0 := by
          rcases List.mem_cons.mp h with z | z
          · exact z.symm
          · rw [List.map_cons, List.nodup_cons] at nd
            exact absurd (List.mem_map.mpr ⟨c0, z, y.symm⟩) nd.1
        subst ec
        exact hx ρ D H T σ _ a d Q s xa (by rw [List.getElem?_set_self (by omega)]) k
      · have y : ¬ c.C = c0.C := of_decide_eq_false y
        rcases List.mem_cons.mp h with z | z
        · exact absurd (by rw [z]) y
        · rw [List.map_cons, List.nodup_cons] at nd
          exact ih (fun c hc => hm c (List.mem_cons_of_mem _ hc)) z nd.2
  exact go cs (fun _ h => h) m0 hn
theorem ev_many (ap : ApartT K cs) (hn : (cs.map ClT.C).Nodup) (h : ∀ E', EvP K E' (t E') ρ (fun r ρ1 => match r with
    | .ok o => P (.ok (.d .non)) (bk o ρ1)
    | .ex C fs => ∃ c ∈ cs, c.C = C ∧ ∃ x, Tells K c.te C fs x ∧ P (.ok (.d x)) ρ1)) : EvP K E (LamX.tLam (HasTabs.tt K) (TTm K cs) t) ρ P := by
  intro D H T σ Q s k xo
  refine ⟨s.tb.ext s.ex, fun H1 n1 t1 => ?_⟩
  obtain ⟨D1, s1⟩ := s.tabs n1 t1
  refine h _ D1 H1 T σ _ s1 (fun v o ρ' D' H' q s' => k _ _ _ D' H' q (s'.bk.push .non)) fun C' fs ρ' D' H' d q s' xa σ0 h2 => ?_
  obtain ⟨c, hc, hC, x, hx, q⟩ := q
  exact wMany_ok ap hc hC hn s' xa hx (fun v D2 H2 z => k v _ ρ' D2 H2 q z) h2
end
/-! answers: texts, fields, fields shown, of which class -/
inductive Itk where
  | fld (f : Str)
  | shown (f : Str)
  | isx (E : Addr)
def itkT (K : PySem.W.Frag) (C a : Addr) (cls : Value) (d : Option Addr) : List Itk → TA
  | [] => tNil
  | .fld f :: r => tCons (tXf a cls d C f (tVar 1)) (itkT K C a cls d r)
  | .shown f :: r => tCons (tCB (rReprD K) (tCons (tXf a cls d C f (tVar 1)) tNil)) (itkT K C a cls d r)
  | .isx E :: r => tCons (tCB (rIsX K a cls d) (tCons (tVar 1) (tCons (tC (.ref E)) tNil))) (itkT K C a cls d r)
def itkD (K : PySem.W.Frag) (C : Addr) (fs : List (Str × Dat)) : List Itk → List Dat → Prop
  | [], ds => ds = []
  | .fld f :: r, ds => ∃ x t, fs.lookup f = some x ∧ itkD K C fs r t ∧ ds = x :: t
  | .shown f :: r, ds => ∃ x t, fs.lookup f = some x ∧ (x.pure = true ∧ x.py.showable = true ∧ x.py.hasDict = false ∧ x.py.shown.length ≤ sizeLine ∧ x.py.depth ≤ 64) ∧ itkD K C fs r t ∧ ds = .str x.py.shown :: t
  | .isx E :: r, ds => ∃ b t, ExcD K C ∧ PySem.W.kitOne K (.ref C) (.ref E) = some b ∧ itkD K C fs r t ∧ ds = .bl b :: t
section
variable {K : PySem.W.Frag} [HasTabs K] {D H : Hp} {σ1 : L2.St} {C a d : Addr} {fs : List (Str × Dat)}
theorem itkT_ok (e : Ex D H) (x : XAt K D H d fs) (h1 : σ1[1]? = some (some (.ref a))) : ∀ {its : List Itk} {ds : List Dat} {R : List V → Hp → Prop}, itkD K C fs its ds → (∀ ws, ws.length = its.length → DenAll K D ws ds → R ws H) → itkT K C a (.ref C) (some d) its σ1 H R
  | [], _, R, h, k => by
    cases (show _ = [] from h)
    exact k [] rfl .nil
  | .fld f :: r, _, R, h, k => by
    obtain ⟨y, t, hl, ht, rfl⟩ := h
    obtain ⟨vs, hv, dv⟩ := id x
    obtain ⟨v, l, q⟩ := denF_look dv hl
    refine ⟨.ref a, h1, rfl, rfl, d, vs, v, rfl, hv, l, ?_⟩
    exact itkT_ok e x h1 ht fun ws hl q2 => k (v :: ws) (by simp [hl]) (.cons q q2)
  | .shown f :: r, _, R, h, k => by
    obtain ⟨y, t, hl, ⟨g1, g2, g3, g4, g5⟩, ht, rfl⟩ := h
    obtain ⟨vs, hv, dv⟩ := id x
    obtain ⟨v, l, q⟩ := denF_look dv hl
    refine ⟨.ref a, h1, rfl, rfl, d, vs, v, rfl, hv, l, ?_⟩
    refine (acb_repr g1 g2 g3 g4 g5).2 H [v] (fun x H1 => itkT K C a (.ref C) (some d) r σ1 H1 fun xs H2 => R (x :: xs) H2) (.cons (q.mono e) .nil) ?_
    exact itkT_ok e x h1 ht fun ws hl q2 => k (_ :: ws) (by simp [hl]) (.cons (.str _) q2)
  | .isx E :: r, _, R, h, k => by
    obtain ⟨b, t, ed, eE, ht, rfl⟩ := h
    obtain ⟨vs, hv, dv⟩ := id x
    refine ⟨.ref a, h1, C, d, vs, .ref E, .ref E, b, rfl, rfl, rfl, hv, .own E, ed, eE, ?_⟩
    exact itkT_ok e x h1 ht fun ws hl q2 => k (_ :: ws) (by simp [hl]) (.cons (.bl _) q2)
/-- (tag, ..) -/
def teTag (K : PySem.W.Frag) (C : Addr) (tag : Str) (its : List Itk) : Addr → Value → Option Addr → TE := fun a cls d => tTup (tCons (tC (.str tag)) (itkT K C a cls d its))
theorem tells_tag {tag : Str} {its : List Itk} {ds : List Dat} (few : its.length ≤ 900) (h : itkD K C fs its ds) : Tells K (teTag K C tag its) C fs (.tup (.str tag :: ds)) := by
  intro ρ D H T σ σ1 a d Q s xa h1 k
  refine itkT_ok s.ex xa h1 h fun ws hl q => ⟨?_, fun p hp => ?_⟩
  · rw [List.length_cons, hl, sizeLine_eq]; omega
  · have sn := s.new hp (.tup (.str tag :: ws))
    exact k _ _ _ (sn.push (.tup upd_same (.cons (.str _) (q.mono (Ex.new (s.dnone hp))))))
end
end DL

/-! ### Mq. whether data is empty -/
namespace DL
open PySem L2 Evl PySem.Spec PyProof.Rows
section
variable {K : PySem.W.Frag} [HasTabs K] {E : XK} {ρ : Rh} {P : EPost} {te : TE}
theorem tv_truD (h : EvP K E te ρ (bnd (fun o ρ1 => ∃ d t ds, o = .d d ∧ d.seq = some (t, ds) ∧ P (.ok (.d (.bl (!ds.isEmpty)))) ρ1) P)) : TvP K E (tTru K te) ρ P := by
  intro D H T σ Q s k xo
  refine h D H T σ _ s (fun v o ρ1 D1 H1 q1 g => ?_) (xo.sub0 fun _ _ _ z => z)
  obtain ⟨d, t, ds, rfl, hd, q⟩ := q1
  have hv := g.tm (v, _) List.mem_cons_self
  cases hv with
  | d hv =>
    have fin : ∀ us : List V, DenAll K D1 us ds → (!ds.isEmpty) = !us.isEmpty := fun us hu => by
      have := hu.length
      cases us <;> cases ds <;> simp at this ⊢
    cases hv with
    | lst g1 g2 =>
      cases hd
      exact ⟨_, .inl ⟨_, sq_of (g.ex _ _ g1), fin _ g2⟩, k _ _ D1 H1 q g.pop⟩
    | tup g1 g2 =>
      cases hd
      exact ⟨_, .inr (.inl ⟨_, st_of (g.ex _ _ g1), fin _ g2⟩), k _ _ D1 H1 q g.pop⟩
    | _ => exact nomatch hd
/-- [x] * n, to be written on -/
theorem ev_repO {ta tb : TE} (h : EvP K E ta ρ (bnd (fun x ρ1 => EvP K E tb ρ1 (bnd (fun y ρ2 => ∃ d j, x = .d (.lst [d]) ∧ y = .d (.int j) ∧ 0 ≤ j ∧ j ≤ 100000 ∧ ∀ b, P (.ok (.l b ((List.replicate j.toNat d).map Ow.d))) ρ2) P)) P)) : EvP K E (tOp rRep ta tb) ρ P := by
  intro D H T σ Q s k xo
  refine h D H T σ _ s (fun v x ρ1 D1 H1 q1 s1 => ?_) (xo.sub0 fun _ _ _ z => z)
  refine q1 D1 H1 _ σ _ s1 (fun w y ρ2 D2 H2 q2 s2 => ?_) (xo.sub1 fun _ _ _ z => z)
  obtain ⟨d, j, rfl, rfl, h0, hj, hp⟩ := q2
  have hx := s2.tm (v, _) (List.mem_cons_of_mem _ List.mem_cons_self)
  have hy := s2.tm (w, _) List.mem_cons_self
  cases hy with
  | d hy =>
    cases hy
    cases hx with
    | d hx =>
      cases hx with
      | lst g1 g2 =>
        cases g2 with
        | cons g2 gn =>
          cases gn
          rename_i a1 u
          have s3 : Sd K D2 H2 T σ ρ2 := s2.pop.pop
          refine ⟨a1, j, [u], rfl, rfl, s2.ex _ _ g1, by omega, by omega, sz_of (by simp; omega), ?_⟩
          intro l hl
          have e : ∀ n : Nat, (List.replicate n [u]).flatten = List.replicate n u := by
            intro n
            induction n with
            | zero => rfl
            | succ n ih => rw [List.replicate_succ, List.flatten_cons, ih]; rfl
          have p : ∀ n : Nat, Sd K D2 H2 ((List.replicate n u).zip ((List.replicate n d).map Ow.d) ++ T) σ ρ2 := by
            intro n
            induction n with
            | zero => exact s3
            | succ n ih => exact ih.push g2
          rw [e]
          exact k _ _ _ _ _ (hp l) ((p j.toNat).own (by simp) hl)
end
end DL

/-! ### Mr. an error of the text straight over KeyError, with one field -/
namespace DL
open PySem L2 Evl PySem.Spec PyProof.Rows
abbrev keMro : List Value := [.type "KeyError", .type "LookupError", .type "Exception", .type "BaseException", .type "object"]
theorem ke_in {C : Addr} {X : String} {b : Bool} (e : keMro.contains (.type X) = b) : (Value.ref C :: keMro).contains (.type X) = b := by
  rw [← e, List.contains_cons]
  rfl
section
variable {P : Program} {w : World} {A : Around} {G : Array GenState} {dr : Drawn} {tk : Nat} {os : OsState} {hp : Heap}
variable {nm qn : Str} {C N : Addr} {bs : List Value} {sn : List Str} {sub : List Value} {ab : Bool} {col : Option Bool} {dd : Option Addr} {s0 s1 s2 s3 s5 : Option Value}
/-- the class object -/
abbrev keObj (nm qn : Str) (C N : Addr) (bs : List Value) (sn : List Str) (sub : List Value) (ab : Bool) (col : Option Bool) (dd : Option Addr) (s0 s1 s2 s3 s5 : Option Value) : Obj := excClassObj nm qn C N bs keMro true sn sub ab col dd s0 s1 s2 s3 s5 "LookupError.__new__"
/-- the bare error, as it is new -/
abbrev keNew (C t : Addr) : Obj := { cls := .ref C, data := .fields #[.ref t, .none, .none, .none, .bool false, .none] }
theorem ke_check {M : Model} {E : Value → Shared → Prop} {us : List Value} {Q : Unit → Shared → Prop} (o : hp.get? C = some (keObj nm qn C N bs sn sub ab col dd s0 s1 s2 s3 s5)) (k : Q () ⟨hp, G, dr, tk, os⟩) :
    wpAny M A (checkBuiltinCall "LookupError.__new__" ⟨.ref C :: us, []⟩) Q E ⟨hp, G, dr, tk, os⟩ := by
  have LF := PySem.F.excBase_LookupError
  have inB : (Value.ref C :: keMro).contains (.type "LookupError") = true := ke_in (by decide +kernel)
  have st := LF.noStar
  simp only [checkBuiltinCall, LF.newKind, LF.newRow, LF.newSplit]
  repeat (first
    | refine wpAny_loadPart_at o ?_
    | (refine wpAny_isSubtype_exc o ?_; rw [inB])
    | refine wpAny_staticBase_exc o ?_
    | refine wpAny_madeBy_exc o ?_
    | simp only [Bool.false_eq_true, bne_self_eq_false, if_false]
    | wp_step)
  exact k
theorem ke_new {R : Result → Shared → Prop} {us : List Value} (o : hp.get? C = some (keObj nm qn C N bs sn sub ab col dd s0 s1 s2 s3 s5)) (few : us.length ≤ sizeLine)
    (k : R (.ok (.ret (.ref (hp.objs.size + 1)))) ⟨(hp.push { cls := .type "tuple", data := .seq us.toArray }).push (keNew C hp.objs.size), G, dr, tk, os⟩) :
    codeAny (model P w) A (.builtin "LookupError.__new__" ⟨.ref C :: us, []⟩) R ⟨hp, G, dr, tk, os⟩ := by
  have LF := PySem.F.excBase_LookupError
  have en := LF.ends
  have i1 : (Value.ref C :: keMro).contains (.type "LookupError") = true := ke_in (by decide +kernel)
  have i2 : (Value.ref C :: keMro).contains (.type "AttributeError") = false := ke_in (by decide +kernel)
  have i3 : (Value.ref C :: keMro).contains (.type "NameError") = false := ke_in (by decide +kernel)
  refine codeAny_builtinAt LF.entry ?_
  unfold Builtin.«BaseException.__new__»
  refine PySem.wpAt_bind ?_
  show PySem.wpAt _ _ _ (PySem.stack >>= _) _ _ _
  refine PySem.wpAt_bind (PySem.wpAt_stack fun _ _ => PySem.wpAt_of_wpAny ?_)
  wp_walk
  refine PySem.wpAt_of_wpAny ?_
  rw [LF.owner]
  repeat (first
    | with_reducible refine wpAny_madeHere_exc LF.canon o ?_
    | with_reducible refine wpAny_loadPart_at o ?_
    | (with_reducible refine wpAny_isSubtype_exc o ?_; first | rw [i1] | rw [i2] | rw [i3])
    | wp_step)
  show R _ _
  rw [Heap.size_push]
  exact k
theorem ke_typecall {E : Value → Shared → Prop} {us : List Value} {fI : Addr} {Q : Fin → Shared → Prop} (o : hp.get? C = some (keObj nm qn C N bs sn sub ab col dd s0 s1 s2 s3 s5)) (few : us.length ≤ sizeLine)
    (li : PySem.W.Looks (model P w) hp (typeLookup (.ref C) "__init__") (some (.ref fI))) (lb : ∀ u, PySem.W.Looks (model P w) hp (bindSpecial (.ref fI) u) (.ref fI, [u]))
    (k : codeAny (model P w) A (.call (.ref fI) ⟨.ref (hp.objs.size + 1) :: us, []⟩) (fun r s' => match r with
      | .ok (.ret v) => v = .none ∧ Q (.done (.ret (.ref (hp.objs.size + 1)))) s'
      | .ok _ => False
      | .error e => E e s') ⟨(hp.push (PySem.W.kdv_tup us)).push (keNew C hp.objs.size), G, dr, tk, os⟩) :
    wpAny (model P w) A (Builtin.«type.__call__» ⟨.ref C :: us, []⟩) Q E ⟨hp, G, dr, tk, os⟩ := by
  repeat (first
    | with_reducible refine wpAny_loadPart_at o ?_
    | with_reducible refine wpAny_madeBy_exc o ?_
    | wp_step)
  refine codeAny_call_builtin_code (Code.quiet_builtin _ PySem.F.excBase_LookupError.quiet) (ke_check o (ke_new o few ?_))
  show wpAny _ _ _ _ _ _
  have kp : ∀ b u, hp.get? b = some u → ((hp.push (PySem.W.kdv_tup us)).push (keNew C hp.objs.size)).get? b = some u := fun b u z => Heap.get?_push_of_some _ (Heap.get?_push_of_some _ z)
  have o1 := kp _ _ o
  have at1 : ((hp.push (PySem.W.kdv_tup us)).push (keNew C hp.objs.size)).get? (hp.objs.size + 1) = some (keNew C hp.objs.size) := by heap_get
  have own : (Value.ref C :: keMro).contains (.ref C) = true := by simp
  have li1 := li.keeps kp
  have lb1 := (lb (.ref (hp.objs.size + 1))).keeps kp
  unfold isInstance
  repeat (first
    | with_reducible refine wpAny_loadPart_at at1 ?_
    | (with_reducible refine wpAny_isSubtype_exc o1 ?_; rw [own])
    | wp_step)
  show wpAny _ _ (typeLookup (.ref C) _) _ _ _
  refine li1.at (wpAny_holding (wpAny_bind (lb1.at ?_)))
  refine wpAny_bind (wpAny_call (codeAny_mono k fun r s' z => ?_))
  cases r with
  | error e => exact z
  | ok f =>
    cases f with
    | ret v =>
      obtain ⟨rfl, z⟩ := z
      first
        | exact wpAny_pure (wpAny_pure z)
        | (wp_walk; exact z)
    | next => exact z.elim
    | brk => exact z.elim
    | cont => exact z.elim
theorem ke_call {R : Result → Shared → Prop} {us : List Value} {fI : Addr} (o : hp.get? C = some (keObj nm qn C N bs sn sub ab col dd s0 s1 s2 s3 s5)) (few : us.length ≤ sizeLine)
    (li : PySem.W.Looks (model P w) hp (typeLookup (.ref C) "__init__") (some (.ref fI))) (lb : ∀ u, PySem.W.Looks (model P w) hp (bindSpecial (.ref fI) u) (.ref fI, [u]))
    (k : codeAny (model P w) (A.under (.builtin "type.__call__" ⟨.ref C :: us, []⟩)) (.call (.ref fI) ⟨.ref (hp.objs.size + 1) :: us, []⟩) (PySem.W.InitBack (hp.objs.size + 1) R) ⟨(hp.push (PySem.W.kdv_tup us)).push (keNew C hp.objs.size), G, dr, tk, os⟩) :
    codeAny (model P w) A (.call (.ref C) ⟨us, []⟩) R ⟨hp, G, dr, tk, os⟩ := by
  have a1 := tc_lookup
  have a2 := tc_bind (.ref C)
  have ty : (⟨hp, G, dr, tk, os⟩ : Shared).TypeIs (.ref C) "type" := ⟨_, o, rfl⟩
  refine codeAny_of_tree ?_
  show wpAny _ _ (callAny (.ref C) _) _ _ _
  repeat (any_goals (first
    | assumption
    | with_reducible refine wpAny_loadPart_at o ?_
    | wp_step))
  refine ⟨rfl, codeAny_call_builtin_at (Code.quiet_builtin _ (by decide +kernel)) entry_typeCall (wpAny_check_type_call_sub o (ke_typecall o few li lb (codeAny_mono k fun r s' z => ?_)))⟩
  cases r with
  | error e => exact z
  | ok f => cases f <;> exact z
/-- self.f = v, the first field -/
theorem ke_set {K : PySem.W.Frag} {R : Result → Shared → Prop} {f : Str} {tt : Tok} {v : Value} {x : Addr} {fv : Array Value} {cd : ClassData} (inK : K.In hp) (ox : hp.get? x = some { cls := .ref C, data := .fields fv }) (hcd : PySem.W.clsIn K C = some cd) (mr : cd.mro = .ref C :: keMro) (dct : cd.hasDict = true) (no : PySem.W.findIn K (.ref C) f = some none)
    (k : ∀ h' tk' dx, (∀ b u, b ≠ x → hp.get? b = some u → h'.get? b = some u) → hp.objs.size ≤ dx → dx ≠ x → h'.get? x = some { cls := .ref C, dict := some dx, data := .fields fv } → h'.Ns1 dx (fun y => if y = f then some v else none) → R (.ok (.ret .none)) ⟨h', G, dr, tk', os⟩) :
    codeAny (model P w) A (.call (.builtin "object.__setattr__") ⟨[.ref x, .str f tt, v], []⟩) R ⟨hp, G, dr, tk, os⟩ := by
  have J : PySem.W.InstAt hp x { cls := .ref C, data := .fields fv } C none := ⟨ox, rfl, rfl, trivial⟩
  have SO := PySem.F.store_object
  have far : x ≠ hp.objs.size := Nat.ne_of_lt (Heap.lt_size ox)
  have isO : PySem.W.Looks (model P w) hp (isInstance (.ref x) (.type "object")) true := J.type.andThen (PySem.W.looks_mroIn inK (by
    unfold PySem.W.mroIn
    rw [hcd, Option.bind_some, mr, ke_in (C := C) (X := "object") (b := true) (by decide +kernel)]
    rfl))
  refine codeAny_call_builtin SO.slot.plain SO.entry ?_
  refine @PySem.W.check_slot (model P w) _ _ ⟨hp, G, dr, tk, os⟩ "object.__setattr__" "object" "__setattr__" (.ref x) [.str f tt, v] [] _ SO.kind SO.split isO (SO.args (.ref x) (.str f tt) v) ?_
  have lm : PySem.W.Looks (model P w) hp (mroOf (.ref C)) cd.mro := (PySem.W.looks_clsIn inK hcd).andThen .now
  have lt : PySem.W.Looks (model P w) hp (Builtin.ObjectAttr.storeTaker? none) none := .now
  have lc : PySem.W.Looks (model P w) hp (classData C) cd := PySem.W.looks_clsIn inK hcd
  have pass : refuseLoop (.ref x) "__setattr__" cd.mro = pure () := by
    rw [mr, refuseLoop_ref]
    kernel_rfl
  rw [PySem.W.osa_eq, refuse_eq]
  refine wpAny_bind (wpAny_bind (J.type.at (wpAny_bind (lm.at ?_))))
  rw [pass]
  refine wpAny_pure (wpAny_bind (J.type.at (wpAny_bind ((PySem.W.looks_findIn inK no).at (wpAny_bind (lt.at ?_))))))
  show wpAny _ _ (Builtin.ObjectAttr.storeInOwnDict (.ref x) (.ref C) (.str f tt) f v false) _ _ _
  obtain ⟨c1, c2, c3, c4, c5, c6, c7, c8, c9, c10, c11⟩ := cd
  dsimp only at dct
  subst dct
  unfold Builtin.ObjectAttr.storeInOwnDict Builtin.ObjectAttr.ownDictForStores
  repeat (first
    | with_reducible refine PySem.HandSPX.store_in_new ?_ ?_
    | with_reducible refine wpAny_loadPart_at ox ?_
    | with_reducible refine lc.at ?_
    | wp_step)
  · exact ⟨_, #[], _, (Heap.get?_update_ne _ _ _ _ far.symm).trans (Heap.get?_push_at rfl rfl), rfl, fun e he => absurd he (by simp), fun _ => rfl⟩
  · intro h' tk' ns same
    have ox1 : (hp.push { cls := .type "dict", data := .dict #[] }).get? x = some { cls := .ref C, data := .fields fv } := Heap.get?_push_of_some _ ox
    refine k h' tk' hp.objs.size (fun b u nb hb => ?_) (Nat.le_refl _) far.symm ((same.2 x far).trans (Heap.get?_update_self _ ox1 rfl)) ns
    exact (same.2 b (Nat.ne_of_lt (Heap.lt_size hb))).trans ((Heap.get?_update_ne _ _ _ _ nb).trans (Heap.get?_push_of_some _ hb))
end
/-- what the written part says of such a class -/
structure OexK (K : PySem.W.Frag) (C : Addr) : Prop where
  cls : ∃ nm qn N bs sn sub ab col dd s0 s1 s2 s3 s5, K.lookup C = some (keObj nm qn C N bs sn sub ab col dd s0 s1 s2 s3 s5)
  sa : PySem.W.findIn K (.ref C) "__setattr__" = some (some (.builtin "object.__setattr__"))
  exC : PySem.W.subIn K (.ref C) (.type "BaseException") = some true
  tyC : PySem.W.typeIn K (.ref C) = some (.type "type")
  kC : PySem.W.keepIn K (.ref C) = true
section
variable {X : Cx} {pins : List (Addr × Obj)} {σ : L2.St} {H : Hp} {s : Shared} {a C : Addr} {f : Str} {y : V} {u : Value} {Q : Unit → Shared → Prop} {E : Value → Shared → Prop} {A : Around}
theorem exn_of {e b : Addr} {D : Option Addr} (n : H b = none) (h : H e = some (exo e C D)) : b ≠ e := fun z => by
  rw [z, h] at n
  cases n
/-- self.f = y, the first field, told of the heap -/
theorem ostK (T : OexK X.K C) (I : Inv X pins σ H s) (e : H a = some (exo a C none)) (no : PySem.W.findIn X.K (.ref C) f = some none) (ry : RelV y u)
    (k : ∀ dx s', H dx = none → dx ≠ a → Inv X pins σ (upd (upd H dx (exd dx [(f, y)])) a (exo a C (some dx))) s' → Q () s') : wpAny (model X.prog X.w) A (setAttr (.ref a) f u) Q E s := by
  obtain ⟨nm, qn, N, bs, sn, sub, ab, col, dd, s0, s1, s2, s3, s5, hC⟩ := T.cls
  obtain ⟨cd, hcd, mr, dct⟩ : ∃ cd, PySem.W.clsIn X.K C = some cd ∧ cd.mro = .ref C :: keMro ∧ cd.hasDict = true := ⟨_, by unfold PySem.W.clsIn; rw [hC], rfl, rfl⟩
  obtain ⟨t1, ho⟩ := exo_at I.hok e
  obtain ⟨hp, G, dr, tk, os⟩ := s
  refine PySem.W.set_plain I.kIn (ox := keNew C t1) (od := none) ⟨ho, rfl, rfl, trivial⟩ T.sa (ke_set I.kIn ho hcd mr dct no fun h' tk' dx kp dn dne hx hn => ?_)
  have nD : H dx = none := I.hok.fresh dn
  have far : ∀ {b : Addr} {o : Obj}, hp.get? b = some o → b ≠ dx := fun {b o} z => Nat.ne_of_lt (Nat.lt_of_lt_of_le (Heap.lt_size z) dn)
  have same : ∀ {b : Addr} {o : HO}, H b = some o → b ≠ a → upd (upd H dx (exd dx [(f, y)])) a (exo a C (some dx)) b = some o := fun {b o} z nb => by rw [upd_ne nb, upd_ne (ne_of_none z nD), z]
  have U : Un X.fs [] H (upd (upd H dx (exd dx [(f, y)])) a (exo a C (some dx))) hp h' := {
    keep := fun b o z n _ _ => kp b o (exn_of n e) z
    slot := fun b o z n _ _ => ⟨o.slots, kp b o (exn_of n e) z⟩
    free := fun b o z n _ => by rw [upd_ne (exn_of n e), upd_ne (far z), n]
    there := fun b o z _ => by
      rcases Nat.decEq b a with nb | eb
      · exact ⟨o, kp b o nb z⟩
      · exact ⟨_, by rw [eb]; exact hx⟩
    tups := fun b xs z => same z (at_ne e z exo_tup)
    frzs := fun b o v z => same z (at_ne e z exo_frz)
    tbls := fun b ps z => ⟨#[], by rw [same z (at_ne e z exo_tbl)]; simp⟩ }
  refine k dx _ nD dne (I.un (t' := tk') U fun b o z => ?_)
  by_cases hb : b = a
  · subst hb
    rw [upd_same] at z
    cases z
    exact exo_ok hx
  · rw [upd_ne hb] at z
    by_cases hd : b = dx
    · subst hd
      rw [upd_same] at z
      cases z
      exact exd_ok hn (relO_put (fs := []) ry fun _ => trivial)
    · rw [upd_ne hd] at z
      refine (I.hok b o z).stay (fun c v hc q => kp c v ?_ q) (fun c hc => same hc (at_ne e hc exo_own)) (fun c xs hc => same hc (at_ne e hc exo_tup))
      rcases hc with hc | hc
      · rw [hc]; exact hb
      · exact at_ne e hc exo_own
end
/-- self.f = e -/
def tOstK (K : PySem.W.Frag) (f : Str) (to te : TE) : TS := fun D σ H => te σ H fun y H1 => to σ H1 fun x H2 => ∃ a C : Addr, x = .ref a ∧ OexK K C ∧ PySem.W.findIn K (.ref C) f = some none ∧
  H2 a = some (exo a C none) ∧ ∀ dx, H2 dx = none → dx ≠ a → D.nx σ (upd (upd H2 dx (exd dx [(f, y)])) a (exo a C (some dx)))
section
variable {X : Cx} {o e : Expr} {es : List Expr} {to te : TE} {ta : TA} {f : Str} {p p1 pos : Pos}
theorem ps_ostK (ho : PE X o to) (he : PE X e te) (hs : swapsWith e (some (.Attribute o f p1)) pos.line X.env = pure false := by rfl) : PS X (.Assign [.Attribute o f p1] e pos) (tOstK X.K f to te) := by
  refine ⟨fun pins s σ H D I h => plainObj_wpAny_Assign_Attribute (thn (he.run pins s σ H _ I h) fun v s1 ⟨y, H1, I1, r1, q1⟩ => ?_) hs⟩
  refine thn (ho.run pins s1 σ H1 _ I1 q1) fun u s2 ⟨x, H2, I2, r2, a, C, ex, T, no, ea, q⟩ => ?_
  subst ex
  obtain rfl : u = Value.ref a := r2
  exact ostK T I2 ea no r1 fun dx s' n ne J => ⟨σ, _, J, q dx n ne⟩
/-- C(e, ..) -/
theorem pmkK {CX : CXT} {x : Str} {C fI : Addr} {k : Nat} {fd : FuncData} {ps : List Str} {sp : Sp} (T : OexK X.K C) (iC : PySem.W.findIn X.K (.ref C) "__init__" = some (some (.ref fI))) (tI : PySem.W.typeIn X.K (.ref fI) = some (.type "function"))
    (F1 : FnOk X.prog X.w X.K X.mg X.base CX k fI fd ps sp) (hr : Room (k + 1) X.A) (hb : Binds X.K fd ps []) (hx : Passes CX X (fun _ _ _ => False)) (hg : Gl X x) (hm : X.mg x = some (.ref C)) (ha : PA X (e :: es) ta)
    (hdb : (x == ("__debug__" : Str)) = false := by decide) (he : starEach (e :: es) X.env = (false, eval e X.env) :: starEach es X.env := by rfl) (hpl : (backTo pos (starEach es X.env)).any (·.1) = false := by rfl) :
    PMk X (.Call (.Name x p) (e :: es) [] pos) (tMkO C sp [] ta) := by
  intro pins s σ H Q I h
  obtain ⟨nm, qn, N, bs, sn, sub, ab, col, dd, s0, s1', s2', s3, s5, hC⟩ := T.cls
  refine wpAny_Call_Name_kw (ld_glob I hg hm ?_ hdb)
  refine PySem.W.callWith_K (h₀ := X.base) I.ok.mod.kin T.kC (thn (ha.run pos pins s σ H _ I h) fun us s1 ⟨vs, H1, I1, r1, hz, q1⟩ => ⟨I1.kIn, ?_⟩) he hpl
  show wpAny _ _ (call (.ref C) us) _ _ _
  obtain ⟨hp, G, dr, tk, os⟩ := s1
  have hsz := Nat.le_succ hp.objs.size
  have hn : H1 (hp.objs.size + 1) = none := I1.hok.fresh hsz
  have hq := q1 (hp.objs.size + 1) hn
  have kk : ∀ b o, hp.get? b = some o → ((hp.push (PySem.W.kdv_tup us)).push (keNew C hp.objs.size)).get? b = some o := fun b o z => Heap.get?_push_of_some _ (Heap.get?_push_of_some _ z)
  have hget : ((hp.push (PySem.W.kdv_tup us)).push (keNew C hp.objs.size)).get? (hp.objs.size + 1) = some (keNew C hp.objs.size) := by heap_get
  have I2 : Inv X pins σ (upd H1 (hp.objs.size + 1) (exo (hp.objs.size + 1) C none)) ⟨(hp.push (PySem.W.kdv_tup us)).push (keNew C hp.objs.size), G, dr, tk, os⟩ :=
    I1.laid (t' := tk) (a := hp.objs.size + 1) (o := exo (hp.objs.size + 1) C none) (h' := (hp.push (PySem.W.kdv_tup us)).push (keNew C hp.objs.size)) kk hsz (exo_ok hget)
  rw [List.append_nil] at hq
  have r2 : Vals (V.ref (hp.objs.size + 1) :: vs) (Value.ref (hp.objs.size + 1) :: us) := .cons rfl r1
  have hl : (Value.ref (hp.objs.size + 1) :: us).length = ps.length := by
    rw [← F1.len _ _ _ _ hq]
    exact r2.length.symm
  have few : us.length ≤ sizeLine := by
    rw [← Paired.length r1, sizeLine_eq]
    omega
  refine wpAny_call (ke_call (I1.kIn _ _ hC) few (PySem.W.looks_findIn I1.kIn iC) (fun u => PySem.W.bind_fn I1.kIn u tI) (codeAny_mono (F1.run _ X.stack _ _ ⟨Value.ref (hp.objs.size + 1) :: us, []⟩ (Value.ref (hp.objs.size + 1) :: us) _ _ (fun _ _ _ => False) (hr.make C us []) (I2.env0.make C us []) (by simpa using hb _ (Value.ref (hp.objs.size + 1) :: us) I2.kIn (by simpa using hl)) r2 hq) fun r s' hq' => ?_))
  cases r with
  | error er => exact hx pins σ _ _ er s' I2 hq'
  | ok fl =>
    cases fl with
    | ret u =>
      obtain ⟨v, H2, os2, bare2, un2, hok2, rv, ev, d, fs, ea, ed, hd1, q2⟩ := hq'
      subst ev
      obtain ⟨h2, g2, d2, t2, os'⟩ := s'
      exact ⟨rv, mk_end (raises_own T.exC T.tyC) I1 hsz kk un2 hok2 os2 bare2 ea ed hd1 q2⟩
    | next => exact hq'.elim
    | brk => exact hq'.elim
    | cont => exact hq'.elim
end
/-- its own __init__, which keeps its one argument -/
def spN (K : PySem.W.Frag) (f : Str) : Sp := fun vs H Q _ => ∃ (a C : Addr) (y : V), vs = [.ref a, y] ∧ OexK K C ∧ PySem.W.findIn K (.ref C) f = some none ∧ H a = some (exo a C none) ∧
  ∀ d H2, H2 a = some (exo a C (some d)) → H2 d = some (exd d [(f, y)]) → H d = none → d ≠ a → (∀ b, b ≠ a → b ≠ d → H2 b = H b) → Q .non H2
structure ErrN (P : Program) (w : World) (K : PySem.W.Frag) (mg : Str → Option Value) (base : Heap) (x : Str) (C : Addr) (f : Str) : Prop where
  mgx : mg x = some (.ref C)
  ox : OexK K C
  no : PySem.W.findIn K (.ref C) f = some none
  ini : ∃ (fI : Addr) (fd : FuncData), PySem.W.findIn K (.ref C) "__init__" = some (some (.ref fI)) ∧ PySem.W.typeIn K (.ref fI) = some (.type "function") ∧ Binds K fd ["self", f] [] ∧ FnOk P w K mg base CX0 1 fI fd ["self", f] (spN K f)
structure DfnN (K : PySem.W.Frag) (mg : Str → Option Value) (x qual : Str) (st : Stmt) (C : Addr) (f : Str) : Prop where
  mgx : mg x = some (.ref C)
  ox : OexK K C
  no : PySem.W.findIn K (.ref C) f = some none
  ini : ∃ (fI : Addr) (fd : FuncData), PySem.W.findIn K (.ref C) "__init__" = some (some (.ref fI)) ∧ PySem.W.typeIn K (.ref fI) = some (.type "function") ∧ Binds K fd ["self", f] [] ∧ Fun K "__init__" qual st fI fd
def tRaiseN (K : PySem.W.Frag) (C : Addr) (f : Str) (ta : TA) (E : XK) : TS := fun _ σ H => tMkO C (spN K f) [] ta σ H E
section
variable {P : Program} {w : World} {K : PySem.W.Frag} {mg : Str → Option Value} {base h : Heap} {x qual a : Str} {st : Stmt} {C : Addr} {p1 p2 p3 p4 : Pos}
theorem DfnN.err (F : DfnN K mg x qual st C a) (hst : defBody st = [.Assign [.Attribute (.Name "self" p1) a p2] (.Name a p3) p4]) (S : FnScope ["self", a] ["self", a] (defScope st)) (v0 : Vis (defScope st) "self") (v1 : Vis (defScope st) a) (d1 : (a == ("__debug__" : Str)) = false) (d2 : (a == ("__classdict__" : Str)) = false) : ErrN P w K mg base x C a := by
  obtain ⟨fI, fd, h1, h2, h3, h4⟩ := F.ini
  refine ⟨F.mgx, F.ox, F.no, fI, fd, h1, h2, h3, h4.ok S (fun vs H Q E z => ?_) fun cdv A outer s H vs Q E hr z => ?_⟩
  · obtain ⟨_, _, _, rfl, _⟩ := z
    rfl
  · refine ⟨_, by rw [hst]; exact pss_one (ps_ostK (pe_var (i := 0) rfl v0) (pe_var (i := 1) rfl v1 d1 d2)), ?_⟩
    obtain ⟨e, C', y, rfl, ox, no, hx, k⟩ := z
    refine ⟨y, rfl, .ref e, rfl, e, C', rfl, ox, no, hx, fun dx n1 n2 => k dx _ upd_same ?_ n1 n2 fun b n3 n4 => ?_⟩
    · rw [upd_ne n2, upd_same]
    · rw [upd_ne n3, upd_ne n4]
theorem dfnN_mk {f : Addr} {oc kV doc pm cdv ct : Value} {od an : Option Addr} {osl : Array (Option Value)} (X : K.In h) (G : h.Ns mainGlobals mg) (z : PySem.W.nsIn K mainGlobals x = some (some (.ref C)))
    {nm q2 : Str} {N : Addr} {bs sub : List Value} {sn : List Str} {ab : Bool} {col : Option Bool} {dd : Option Addr} {s0 s1 s2 s3 s5 : Option Value} (cls : K.lookup C = some ⟨.type "type", dd, .cls ⟨nm, bs, .ref C :: keMro, N, q2, true, sn, sub, ab, col, false⟩, #[s0, s1, s2, s3, some (.builtin "LookupError.__new__"), s5]⟩)
    (sa : PySem.W.findIn K (.ref C) "__setattr__" = some (some (.builtin "object.__setattr__"))) (exC : PySem.W.subIn K (.ref C) (.type "BaseException") = some true) (tyC : PySem.W.typeIn K (.ref C) = some (.type "type")) (kC : PySem.W.keepIn K (.ref C) = true)
    (no : PySem.W.findIn K (.ref C) a = some none) (fi : PySem.W.findIn K (.ref C) "__init__" = some (some (.ref f))) (ti : PySem.W.typeIn K (.ref f) = some (.type "function"))
    (l : K.lookup f = some ⟨oc, od, .func (PySem.W.fnOf "__init__" qual (defArgs st) (defBody st) (defScope st) .none kV doc pm an cdv ct), osl⟩) (c : PySem.W.codeIn K cdv qual = true) (k : PySem.W.keepIn K (.ref f) = true) (b : BindN "__init__" qual st ["self", a]) : DfnN K mg x qual st C a :=
  ⟨PySem.W.mg_of X G z, ⟨⟨nm, q2, N, bs, sn, sub, ab, col, dd, s0, s1, s2, s3, s5, cls⟩, sa, exC, tyC, kC⟩, no, ⟨f, _, fi, ti, (fun_mk l c k).binds b, fun_mk l c k⟩⟩
end
section
variable {X : Cx} {x a : Str} {p pos pos2 : Pos} {e : Expr} {es : List Expr} {t : TA} {E : XK} {C : Addr}
/-- raise x(e) -/
theorem ps_raiseN {P : Program} {w : World} {K : PySem.W.Frag} {mg : Str → Option Value} {base : Heap} (O : ErrN P w K mg base x C a) (tk : Takes X (fun cls d _ H => E cls d H)) (hc : X.calm = true) (hX : X.prog = P ∧ X.w = w ∧ X.K = K ∧ X.mg = mg ∧ X.base = base) (hr : Room 2 X.A) (hg : Gl X x) (ha : PA X (e :: es) t) (hdb : (x == ("__debug__" : Str)) = false := by decide)
    (he : starEach (e :: es) X.env = (false, eval e X.env) :: starEach es X.env := by rfl) (hpl : (backTo pos (starEach es X.env)).any (·.1) = false := by rfl) : PS X (.Raise (some (.Call (.Name x p) (e :: es) [] pos)) none pos2) (tRaiseN K C a t E) := by
  obtain ⟨fI, fd, h1, h2, h3, F⟩ := O.ini
  obtain ⟨rfl, rfl, rfl, rfl, rfl⟩ := hX
  exact ps_raise hc tk (pmkK O.ox h1 h2 F hr h3 (fun _ _ _ _ _ _ _ z => z.elim) hg O.mgx ha hdb he hpl)
end
section
variable {K : PySem.W.Frag} [HasTabs K] {E : XK} {ρ : Rh} {S : SPost} {tas : TA} {C : Addr} {f : Str}
theorem sv_raiseN (ox : OexK K C) (no : PySem.W.findIn K (.ref C) f = some none) (h : AvP K E tas ρ (fun os ρ1 => ∃ d, os = [.d d] ∧ S (.xc C [(f, d)] ρ1)) (bndS (fun _ _ => True) S)) : SvP K E (tRaiseN K C f tas E) ρ S := by
  intro D H T σ En s w
  refine h D H T σ _ s (fun vs os ρ1 D1 H1 q1 e1 s1 => ?_) (.ofWd w fun _ _ _ z => z)
  obtain ⟨d0, rfl, q⟩ := q1
  match vs, e1 with
  | [y], _ =>
    refine ⟨by show 1 ≤ 1000; omega, fun a ha => ⟨a, C, y, rfl, ox, no, upd_same, fun d H2 h1 h2 h3 h4 h5 => ?_⟩⟩
    have hd1 : H1 d = none := by rw [upd_ne h4] at h3; exact h3
    refine ⟨rfl, d, _, h1, h2, hd1, ?_⟩
    have hy : Den K D1 y d0 := by
      have z := s1.tm (y, .d d0) List.mem_cons_self
      cases z with
      | d z => exact z
    have g : Sd K D1 (upd (del H2 a) d (.xd [(f, y)])) T σ ρ1 := s1.pop.keepH fun b u hb => by
      have n1 : b ≠ a := fun z => by rw [z, ha] at hb; cases hb
      have n2 : b ≠ d := fun z => by rw [z, hd1] at hb; cases hb
      rw [upd_ne n2, del_ne n1, h5 b n1 n2, upd_ne n1, hb]
    exact w.xc C _ ρ1 D1 _ σ d q g ⟨_, upd_same, .cons hy .nil⟩
end
end DL

/-! ### Ms. how long an owned list is, where it stands -/
namespace DL
open PySem L2 Evl PySem.Spec PyProof.Rows
section
variable {K : PySem.W.Frag} [HasTabs K] {E : XK} {ρ : Rh} {P : EPost} {i : Nat} {a : Addr} {xs : List Ow}
theorem ev_lenV (e : ρ[i]? = some (some (.l a xs))) (q : P (.ok (.d (.int ((xs.length : Nat) : Int)))) ρ) (hl : xs.length ≤ 100000) : EvP K E (tCB (rLenQ K) (tCons (tVar i) tNil)) ρ P := by
  intro D H T σ Q s k xo
  obtain ⟨s0, vs, hH, hD⟩ := s.getl e
  refine ⟨.ref a, s0, a, vs, rfl, .inl (sq_of hH), ?_⟩
  rw [hD.length]
  exact k _ _ _ D H q (s.push (.int _))
end
end DL

/-! ### Mt. what is shown is a text that can be laid -/
namespace DL
open PySem L2 Evl PySem.Spec PyProof.Rows
theorem strOk_app (a b : Str) : PyData.strOk (a ++ b) = (PyData.strOk a && PyData.strOk b) := by
  unfold PyData.strOk
  show (a.cps ++ b.cps).all _ = _
  rw [Array.all_append]
theorem strOk_from : ∀ (ts : List Str) (k : Nat) (acc : Str), PyData.strOk acc = true → (∀ t ∈ ts, PyData.strOk t = true) → PyData.strOk (textFrom k acc ts) = true
  | [], _, _, h, _ => h
  | t :: r, k, acc, h, ht => by
    refine strOk_from r (k + 1) _ ?_ fun x hx => ht x (List.mem_cons_of_mem _ hx)
    rw [strOk_app, strOk_app, h, ht t List.mem_cons_self]
    by_cases c : k > 0
    · rw [if_pos c]; decide +kernel
    · rw [if_neg c]; decide +kernel
theorem strOk_join : ∀ (ts : List Str), (∀ t ∈ ts, PyData.strOk t = true) → PyData.strOk (Str.join ", " ts) = true
  | [], _ => by decide +kernel
  | [x], h => h x List.mem_cons_self
  | x :: y :: r, h => by
    show PyData.strOk (x ++ ", " ++ Str.join ", " (y :: r)) = true
    rw [strOk_app, strOk_app, h x List.mem_cons_self, strOk_join (y :: r) fun t ht => h t (List.mem_cons_of_mem _ ht)]
    decide +kernel
/-- its text can be laid -/
def Lay (d : Dat) : Prop := PyData.canLay0 (.str d.py.shown) = true
theorem lay_int (i : Int) : Lay (.int i) := laid_of _
theorem lay_bl (b : Bool) : Lay (.bl b) := by cases b <;> (unfold Lay; decide +kernel)
theorem lay_non : Lay .non := by unfold Lay; decide +kernel
theorem lays {xs : List Dat} (h : ∀ x ∈ xs, Lay x) : ∀ t ∈ PyData.shownAll (pys xs), PyData.strOk t = true := by
  induction xs with
  | nil => intro t ht; exact absurd (show t ∈ ([] : List Str) from ht) List.not_mem_nil
  | cons x xs ih =>
    intro t ht
    rcases List.mem_cons.mp (show t ∈ x.py.shown :: PyData.shownAll (pys xs) from ht) with rfl | z
    · exact h x List.mem_cons_self
    · exact ih (fun y hy => h y (List.mem_cons_of_mem _ hy)) t z
theorem lay_lst {xs : List Dat} (h : ∀ x ∈ xs, Lay x) : Lay (.lst xs) := by
  show PyData.strOk (listText (PyData.shownAll (pys xs))) = true
  unfold listText
  rw [strOk_app, strOk_from _ 0 _ (by decide +kernel) (lays h)]
  decide +kernel
theorem lay_tup {xs : List Dat} (h : ∀ x ∈ xs, Lay x) : Lay (.tup xs) := by
  show PyData.strOk (tupleText (PyData.shownAll (pys xs))) = true
  unfold tupleText
  rw [strOk_app, strOk_app, strOk_join _ (lays h)]
  by_cases c : ((PyData.shownAll (pys xs)).length == 1) = true
  · rw [if_pos c]; decide +kernel
  · rw [if_neg c]; decide +kernel
theorem lay_map {α : Type} {f : α → Dat} {xs : List α} (h : ∀ x ∈ xs, Lay (f x)) : ∀ d ∈ xs.map f, Lay d := fun d hd => by
  obtain ⟨x, hx, rfl⟩ := List.mem_map.mp hd
  exact h x hx
theorem nice_shown {n : Nat} {d : Dat} (h : Lay d) : Nice n (.str d.py.shown) := ⟨rfl, h, Nat.zero_le _⟩
end DL

/-! ### Mu. (x,) * n for n up to 100000 -/
namespace DL
open PySem L2 Evl PySem.Spec PyProof.Rows
def rRepW (K : PySem.W.Frag) : R2 := fun x y H Q => ∃ (l : Addr) (k : Int) (z : V), x = .ref l ∧ y = .int k ∧ SqT K H l [z] ∧ 2 ≤ k ∧ k ≤ 100000 ∧ ∀ p, H p = none → Q (.ref p) (upd H p (.tup (List.replicate k.toNat [z]).flatten))
theorem op_repW {X : Cx} : OpR X (binaryOp .Mult) (rRepW X.K) := by
  intro pins s σ H x y vx vy Q I rx ry hw
  obtain ⟨l, k, z, ex, ey, hT, h1, h2, q⟩ := hw
  subst ex ey
  cases rx
  obtain ⟨t, rfl⟩ := ry
  obtain ⟨its, r, ⟨⟨cls, dd, data, sl⟩, ho, hc, n, hd⟩, hsz⟩ := I.tuple hT
  have hc : cls = _ := hc
  have hd : data = _ := hd
  subst hc hd
  have one : its.length = 1 := r.length.symm
  have szI : its.toArray.size = 1 := one
  have nE : its.toArray.isEmpty = false := by
    match its, one with
    | [b], _ => rfl
  have few : (List.replicate k.toNat its).flatten.length ≤ 100000 := by
    rw [PyProof.Rows.lm_len_rep_flat, one]
    omega
  have line : (List.foldl (fun x1 x2 => x1 ++ x2) #[] (List.replicate k.toNat its.toArray)).size ≤ sizeLine := by
    rw [size_rep, List.size_toArray, sizeLine_eq]
    omega
  have prod : ((its.toArray.size : Nat) : Int) * k ≤ 100000 := by
    rw [szI]
    omega
  have gMany : Builtin.Tuple.tupleTooMany (((its.toArray.size : Nat) : Int) * k) = false := by
    rw [Builtin.Tuple.tupleTooMany, sizeLine_eq]
    exact decide_eq_false (by omega)
  have gWord : (decide (k < -(2 ^ 63)) || decide (k ≥ 2 ^ 63)) = false := by
    rw [decide_eq_false (show ¬ k < -(2 ^ 63) by omega), decide_eq_false (show ¬ k ≥ 2 ^ 63 by omega)]
    rfl
  have gOne : (its.toArray.isEmpty || k == 1) = false := by
    rw [nE, Bool.false_or, beq_eq_false_iff_ne]
    omega
  have gNone : (decide (k ≤ 0) || its.toArray.isEmpty) = false := by
    rw [nE, Bool.or_false, decide_eq_false_iff_not]
    omega
  refine wpAny_binaryOp_repeat_ref (T := "tuple") (U := "int") (by decide) ⟨_, ho, rfl⟩ (fun s2 => typeIs_int s2 k t) noFill_tuple_mul F.fills_int_mul F.slot_int_rmul repeat_tuple F.slot_int_index.lookup (call_meets F.slot_int_rmul (typeIs_int s k t) F.entry_int_rmul (F.args_int_rmul_2 _ _) (int_rmul_tuple k t l its.toArray n dd sl) ⟨ho, rfl, ⟨_, ho, rfl⟩, call_meets F.slot_tuple_mul ⟨_, ho, rfl⟩ F.entry_tuple_mul (F.args_tuple_mul_2 _ _)
    (tuple_mulW l its.toArray n dd sl k t gWord gOne gNone (by omega) gMany line) ⟨ho, ?_⟩⟩)
  rw [size_rep]
  refine ⟨.ref s.heap.objs.size, _, I.laid (t' := s.toks) (o := .tup (List.replicate k.toNat [z]).flatten) (fun b ob w => Heap.get?_push_of_some _ w) (Nat.le_refl _) ⟨?_, _, r.rep k.toNat, IsTup.new _ _⟩, rfl, q _ (I.hok.fresh (Nat.le_refl _))⟩
  rw [PyProof.Rows.lm_len_rep_flat, sizeLine_eq]
  show k.toNat * 1 ≤ _
  omega
section
variable {K : PySem.W.Frag} [HasTabs K] {E : XK} {ρ : Rh} {P : EPost}
theorem ev_repW {ta tb : TE} (h : EvP K E ta ρ (bnd (fun x ρ1 => EvP K E tb ρ1 (bnd (fun y ρ2 => ∃ d j, x = .d (.tup [d]) ∧ y = .d (.int j) ∧ 2 ≤ j ∧ j ≤ 100000 ∧ P (.ok (.d (.tup (List.replicate j.toNat d)))) ρ2) P)) P)) : EvP K E (tOp (rRepW K) ta tb) ρ P := by
  intro D H T σ Q s k xo
  refine h D H T σ _ s (fun v x ρ1 D1 H1 q1 s1 => ?_) (xo.sub0 fun _ _ _ z => z)
  refine q1 D1 H1 _ σ _ s1 (fun w y ρ2 D2 H2 q2 s2 => ?_) (xo.sub1 fun _ _ _ z => z)
  obtain ⟨d, j, rfl, rfl, h0, hj, hp⟩ := q2
  have hx := s2.tm (v, _) (List.mem_cons_of_mem _ List.mem_cons_self)
  have hy := s2.tm (w, _) List.mem_cons_self
  cases hy with
  | d hy =>
    cases hy
    cases hx with
    | d hx =>
      cases hx with
      | tup g1 g2 =>
        cases g2 with
        | cons g2 gn =>
          cases gn
          rename_i a1 u
          have s3 : Sd K D2 H2 T σ ρ2 := s2.pop.pop
          refine ⟨a1, j, u, rfl, rfl, SqT.of (s2.ex _ _ g1), h0, hj, ?_⟩
          intro l hl
          refine k _ _ _ _ _ hp ((s3.new hl _).push (.tup upd_same ?_))
          have e : ∀ n : Nat, DenAll K D2 ((List.replicate n [u]).flatten) (List.replicate n d) := by
            intro n
            induction n with
            | zero => exact .nil
            | succ n ih => exact .cons g2 ih
          exact (e _).mono (Ex.new (s3.dnone hl))
end
end DL

namespace K02
open PySem L2 Evl DL
def topS (i : Nat) : Stmt := PySem.Challenge.pw_logsapart_k02_whole_what_a_story_lays_do.main.body.getD i (.Pass ⟨0, 0, 0, 0⟩)
structure Txt (mg : Str → Option Value) : Prop where
  b_isinstance : mg "isinstance" = none
  b_int : mg "int" = none
  b_bool : mg "bool" = none
  b_list : mg "list" = none
  b_tuple : mg "tuple" = none
  b_len : mg "len" = none
  b_all : mg "all" = none
  b_sum : mg "sum" = none
  b_abs : mg "abs" = none
  b_zip : mg "zip" = none
  b_enumerate : mg "enumerate" = none
  b_range : mg "range" = none
  b_repr : mg "repr" = none
  c_FEWEST_HANDS : ∃ t, mg "FEWEST_HANDS" = some (.int 2 t)
  c_MOST_HANDS : ∃ t, mg "MOST_HANDS" = some (.int 8 t)
  c_MOST_MARKS : ∃ t, mg "MOST_MARKS" = some (.int 60 t)
  c_LONGEST : ∃ t, mg "LONGEST" = some (.int 10000 t)
end K02

namespace K02
open PySem L2 Evl DL
local macro_rules | `(tactic| walk_at "dl") => `(tactic| first
  | with_reducible refine bnd_ok ?_ | with_reducible refine bndS_ok ?_ | with_reducible refine onE_ok ?_ | with_reducible refine seq_nx ?_ | with_reducible refine seq_rt ?_ | with_reducible refine seq_bk ?_ | with_reducible refine seq_ct ?_ | with_reducible refine onT_rt ?_ | with_reducible refine onT_bk ?_ | with_reducible refine resS_nx ?_ | with_reducible refine resS_rt ?_
  | refine ev_v rfl ?_ | refine ev_l rfl ?_ | with_reducible refine ev_i ?_ | with_reducible refine ev_n ?_ | with_reducible refine ev_b ?_ | with_reducible refine ev_s ?_
  | with_reducible refine ev_oZ0 ?_ | with_reducible refine ev_oB0 ?_ | with_reducible refine ev_oZ ?_ | with_reducible refine ev_neg ?_ | with_reducible refine ev_neI ?_ | with_reducible refine ev_eqI ?_ | with_reducible refine ev_isN ?_ | with_reducible refine ev_notN ?_ | with_reducible refine ev_chain ?_
  | with_reducible refine ev_andV ?_ | with_reducible refine ev_orV ?_ | with_reducible refine ev_notV ?_ | with_reducible refine ev_if ?_
  | with_reducible refine tv_test ?_ | with_reducible refine tv_B ?_ | with_reducible refine tv_and ?_ | with_reducible refine tv_or ?_ | with_reducible refine tv_not ?_ | with_reducible refine tv_yes ?_
  | with_reducible refine ev_isiInt ?_ | with_reducible refine ev_isiBool ?_ | with_reducible refine ev_isiSeq ?_
  | with_reducible refine av_cons ?_ | with_reducible refine av_nil ?_
  | with_reducible refine ev_pure ?_ | with_reducible refine ev_gcd ?_ | with_reducible refine ev_abs ?_ | with_reducible refine ev_int1 ?_
  | (with_reducible refine DL.ev_len ?_; refine av_cons ?_; refine ev_v rfl ?_; refine bnd_ok ?_; refine av_nil ?_; refine ⟨_, _, _, rfl, by first | rfl | assumption, ?_⟩)
  | with_reducible refine ev_fldD ?_ | with_reducible refine ev_ixS ?_
  | with_reducible refine sv_seq ?_ | with_reducible refine sv_next ?_ | with_reducible refine sv_brk ?_ | with_reducible refine sv_cont ?_ | with_reducible refine sv_ret ?_ | with_reducible refine sv_retN ?_ | with_reducible refine sv_if ?_ | with_reducible refine sv_drop ?_
  | with_reducible refine sv_asg ?_
  | refine ⟨_, rfl, fun hb => ?_, fun hb => ?_⟩
  | refine ⟨_, _, rfl, rfl, fun hb => ?_, fun hb => ?_⟩
  | refine ⟨_, _, rfl, rfl, ?_⟩
  | refine ⟨_, _, _, _, rfl, rfl, rfl, ?_⟩
  | refine ⟨_, rfl, ?_⟩ | refine ⟨_, _, rfl, ?_⟩
  | refine And.intro rfl ?_ | refine And.intro (Nat.le_of_ble_eq_true rfl) ?_ | refine And.intro (by assumption) ?_)
local macro_rules | `(tactic| walk_at "dls") => `(tactic| repeat (walk_at "dl"; all_goals try (first | (exact (nomatch ‹false = true›)) | (exact (nomatch ‹true = false›)))))
local macro_rules | `(tactic| walk_at "dla") => `(tactic| repeat' (first | (exact (nomatch ‹false = true›)) | (exact (nomatch ‹true = false›)) | walk_at "dl"))
local macro_rules | `(tactic| walk_at "dlr") => `(tactic| (refine ret_rt (pms_d _ _ (Nat.le_of_ble_eq_true rfl)) ?_))
local macro_rules | `(tactic| walk_at "dlt") => `(tactic| first | walk_at "dl" | with_reducible refine ev_tup2 ?_ | with_reducible refine ev_tup3 ?_)
local macro_rules | `(tactic| walk_at "dlts") => `(tactic| repeat walk_at "dlt")
section
variable {P : Program} {w : World} {K : PySem.W.Frag} [HasTabs K] {mg : Str → Option Value} {base : Heap} {CH CD : Addr}
abbrev s_is_sequence : Stmt := topS 3
abbrev N_is_sequence : List Str := ["value"]
theorem sc_is_sequence : FnScope N_is_sequence ["value"] (defScope s_is_sequence) := ⟨rfl, rfl, rfl, by decide +kernel, rfl, by decide +kernel, by decide +kernel⟩
def R_is_sequence : List Dat → Dat → Prop := fun ds d => ∃ x : Dat, ds = [x] ∧ x.tyn.isSome = true ∧ d = .bl x.isSeq
theorem ok_is_sequence (T : Txt mg) (F : Dfn K mg "is_sequence" "is_sequence" s_is_sequence ["value"]) : Ok P w K mg base 1 "is_sequence" ["value"] (pureR R_is_sequence) := by
  refine F.ok sc_is_sequence (by decide) (fun os Pp h => ?_) pureR_noex (fun f cdv A outer s H E hr => ⟨_, (pss_one (ps_ret (pe_callB (r := rIsiT K) call_isiT (by rfl) T.b_isinstance (by decide +kernel) (pa_cons (pv 0) (pa_cons (pe_tup (pa_cons (pe_bltn (v := .ty "list") (by rfl) T.b_list (by decide +kernel) rfl) (pa_cons (pe_bltn (v := .ty "tuple") (by rfl) T.b_tuple (by decide +kernel) rfl) pa_nil))) pa_nil))))), fun os Pp h => ?_⟩)
  · obtain ⟨ds, d, rfl, ⟨x, rfl, hx, rfl⟩, q⟩ := h
    rfl
  · obtain ⟨ds, d, rfl, ⟨x, rfl, hx, rfl⟩, q⟩ := h
    show SvP K E0 _ [some (.d x)] _
    walk_at "dls"; walk_at "dlr"; exact q

end
end K02

namespace K02
open PySem L2 Evl DL
local macro_rules | `(tactic| walk_at "dl") => `(tactic| first
  | with_reducible refine bnd_ok ?_ | with_reducible refine bndS_ok ?_ | with_reducible refine onE_ok ?_ | with_reducible refine seq_nx ?_ | with_reducible refine seq_rt ?_ | with_reducible refine seq_bk ?_ | with_reducible refine seq_ct ?_ | with_reducible refine onT_rt ?_ | with_reducible refine onT_bk ?_ | with_reducible refine resS_nx ?_ | with_reducible refine resS_rt ?_
  | refine ev_v rfl ?_ | refine ev_l rfl ?_ | with_reducible refine ev_i ?_ | with_reducible refine ev_n ?_ | with_reducible refine ev_b ?_ | with_reducible refine ev_s ?_
  | with_reducible refine ev_oZ0 ?_ | with_reducible refine ev_oB0 ?_ | with_reducible refine ev_oZ ?_ | with_reducible refine ev_neg ?_ | with_reducible refine ev_neI ?_ | with_reducible refine ev_eqI ?_ | with_reducible refine ev_isN ?_ | with_reducible refine ev_notN ?_ | with_reducible refine ev_chain ?_
  | with_reducible refine ev_andV ?_ | with_reducible refine ev_orV ?_ | with_reducible refine ev_notV ?_ | with_reducible refine ev_if ?_
  | with_reducible refine tv_test ?_ | with_reducible refine tv_B ?_ | with_reducible refine tv_and ?_ | with_reducible refine tv_or ?_ | with_reducible refine tv_not ?_ | with_reducible refine tv_yes ?_
  | with_reducible refine ev_isiInt ?_ | with_reducible refine ev_isiBool ?_ | with_reducible refine ev_isiSeq ?_
  | with_reducible refine av_cons ?_ | with_reducible refine av_nil ?_
  | with_reducible refine ev_pure ?_ | with_reducible refine ev_gcd ?_ | with_reducible refine ev_abs ?_ | with_reducible refine ev_int1 ?_
  | (with_reducible refine DL.ev_len ?_; refine av_cons ?_; refine ev_v rfl ?_; refine bnd_ok ?_; refine av_nil ?_; refine ⟨_, _, _, rfl, by first | rfl | assumption, ?_⟩)
  | with_reducible refine ev_fldD ?_ | with_reducible refine ev_ixS ?_
  | with_reducible refine sv_seq ?_ | with_reducible refine sv_next ?_ | with_reducible refine sv_brk ?_ | with_reducible refine sv_cont ?_ | with_reducible refine sv_ret ?_ | with_reducible refine sv_retN ?_ | with_reducible refine sv_if ?_ | with_reducible refine sv_drop ?_
  | with_reducible refine sv_asg ?_
  | refine ⟨_, rfl, fun hb => ?_, fun hb => ?_⟩
  | refine ⟨_, _, rfl, rfl, fun hb => ?_, fun hb => ?_⟩
  | refine ⟨_, _, rfl, rfl, ?_⟩
  | refine ⟨_, _, _, _, rfl, rfl, rfl, ?_⟩
  | refine ⟨_, rfl, ?_⟩ | refine ⟨_, _, rfl, ?_⟩
  | refine And.intro rfl ?_ | refine And.intro (Nat.le_of_ble_eq_true rfl) ?_ | refine And.intro (by assumption) ?_)
local macro_rules | `(tactic| walk_at "dls") => `(tactic| repeat (walk_at "dl"; all_goals try (first | (exact (nomatch ‹false = true›)) | (exact (nomatch ‹true = false›)))))
local macro_rules | `(tactic| walk_at "dla") => `(tactic| repeat' (first | (exact (nomatch ‹false = true›)) | (exact (nomatch ‹true = false›)) | walk_at "dl"))
local macro_rules | `(tactic| walk_at "dlr") => `(tactic| (refine ret_rt (pms_d _ _ (Nat.le_of_ble_eq_true rfl)) ?_))
local macro_rules | `(tactic| walk_at "dlt") => `(tactic| first | walk_at "dl" | with_reducible refine ev_tup2 ?_ | with_reducible refine ev_tup3 ?_)
local macro_rules | `(tactic| walk_at "dlts") => `(tactic| repeat walk_at "dlt")
section
variable {P : Program} {w : World} {K : PySem.W.Frag} [HasTabs K] {mg : Str → Option Value} {base : Heap} {CH CD : Addr}
abbrev s_is_number : Stmt := topS 1
abbrev N_is_number : List Str := ["value"]
theorem sc_is_number : FnScope N_is_number ["value"] (defScope s_is_number) := ⟨rfl, rfl, rfl, by decide +kernel, rfl, by decide +kernel, by decide +kernel⟩
def isNum : Dat → Bool
  | .int i => decide (0 ≤ i)
  | _ => false
def R_is_number : List Dat → Dat → Prop := fun ds d => ∃ x : Dat, ds = [x] ∧ x.tyn.isSome = true ∧ d = .bl (isNum x)
theorem ok_is_number (T : Txt mg) (F : Dfn K mg "is_number" "is_number" s_is_number ["value"]) : Ok P w K mg base 1 "is_number" ["value"] (pureR R_is_number) := by
  refine F.ok sc_is_number (by decide) (fun os Pp h => ?_) pureR_noex (fun f cdv A outer s H E hr => ⟨_, (pss_one (ps_ret (pe_and (pe_callB (r := rIsi K) call_isi (by rfl) T.b_isinstance (by decide +kernel) (pa_cons (pv 0) (pa_cons (pe_bltn (v := .ty "int") (by rfl) T.b_int (by decide +kernel) rfl) pa_nil))) (pe_and (pe_not (pe_callB (r := rIsi K) call_isi (by rfl) T.b_isinstance (by decide +kernel) (pa_cons (pv 0) (pa_cons (pe_bltn (v := .ty "bool") (by rfl) T.b_bool (by decide +kernel) rfl) pa_nil)))) (pe_one (pe_cmpR op_ge (pv 0) pe_int (nomark _))))))), fun os Pp h => ?_⟩)
  · obtain ⟨ds, d, rfl, ⟨x, rfl, hx, rfl⟩, q⟩ := h
    rfl
  · obtain ⟨ds, d, rfl, ⟨x, rfl, hx, rfl⟩, q⟩ := h
    show SvP K E0 _ [some (.d x)] _
    cases x with
    | int i => walk_at "dls"; walk_at "dlr"; exact q
    | bl b => walk_at "dls"; walk_at "dlr"; exact q
    | non => walk_at "dls"; walk_at "dlr"; exact q
    | str z => walk_at "dls"; walk_at "dlr"; exact q
    | lst z => walk_at "dls"; walk_at "dlr"; exact q
    | tup z => walk_at "dls"; walk_at "dlr"; exact q
    | obj _ _ => cases hx
    | ty _ => cases hx
    | scr _ => cases hx

end
end K02

namespace K02
open PySem L2 Evl DL
local macro_rules | `(tactic| walk_at "dl") => `(tactic| first
  | with_reducible refine bnd_ok ?_ | with_reducible refine bndS_ok ?_ | with_reducible refine onE_ok ?_ | with_reducible refine seq_nx ?_ | with_reducible refine seq_rt ?_ | with_reducible refine seq_bk ?_ | with_reducible refine seq_ct ?_ | with_reducible refine onT_rt ?_ | with_reducible refine onT_bk ?_ | with_reducible refine resS_nx ?_ | with_reducible refine resS_rt ?_
  | refine ev_v rfl ?_ | refine ev_l rfl ?_ | with_reducible refine ev_i ?_ | with_reducible refine ev_n ?_ | with_reducible refine ev_b ?_ | with_reducible refine ev_s ?_
  | with_reducible refine ev_oZ0 ?_ | with_reducible refine ev_oB0 ?_ | with_reducible refine ev_oZ ?_ | with_reducible refine ev_neg ?_ | with_reducible refine ev_neI ?_ | with_reducible refine ev_eqI ?_ | with_reducible refine ev_isN ?_ | with_reducible refine ev_notN ?_ | with_reducible refine ev_chain ?_
  | with_reducible refine ev_andV ?_ | with_reducible refine ev_orV ?_ | with_reducible refine ev_notV ?_ | with_reducible refine ev_if ?_
  | with_reducible refine tv_test ?_ | with_reducible refine tv_B ?_ | with_reducible refine tv_and ?_ | with_reducible refine tv_or ?_ | with_reducible refine tv_not ?_ | with_reducible refine tv_yes ?_
  | with_reducible refine ev_isiInt ?_ | with_reducible refine ev_isiBool ?_ | with_reducible refine ev_isiSeq ?_
  | with_reducible refine av_cons ?_ | with_reducible refine av_nil ?_
  | with_reducible refine ev_pure ?_ | with_reducible refine ev_gcd ?_ | with_reducible refine ev_abs ?_ | with_reducible refine ev_int1 ?_
  | (with_reducible refine DL.ev_len ?_; refine av_cons ?_; refine ev_v rfl ?_; refine bnd_ok ?_; refine av_nil ?_; refine ⟨_, _, _, rfl, by first | rfl | assumption, ?_⟩)
  | with_reducible refine ev_fldD ?_ | with_reducible refine ev_ixS ?_
  | with_reducible refine sv_seq ?_ | with_reducible refine sv_next ?_ | with_reducible refine sv_brk ?_ | with_reducible refine sv_cont ?_ | with_reducible refine sv_ret ?_ | with_reducible refine sv_retN ?_ | with_reducible refine sv_if ?_ | with_reducible refine sv_drop ?_
  | with_reducible refine sv_asg ?_
  | refine ⟨_, rfl, fun hb => ?_, fun hb => ?_⟩
  | refine ⟨_, _, rfl, rfl, fun hb => ?_, fun hb => ?_⟩
  | refine ⟨_, _, rfl, rfl, ?_⟩
  | refine ⟨_, _, _, _, rfl, rfl, rfl, ?_⟩
  | refine ⟨_, rfl, ?_⟩ | refine ⟨_, _, rfl, ?_⟩
  | refine And.intro rfl ?_ | refine And.intro (Nat.le_of_ble_eq_true rfl) ?_ | refine And.intro (by assumption) ?_)
local macro_rules | `(tactic| walk_at "dls") => `(tactic| repeat (walk_at "dl"; all_goals try (first | (exact (nomatch ‹false = true›)) | (exact (nomatch ‹true = false›)))))
local macro_rules | `(tactic| walk_at "dla") => `(tactic| repeat' (first | (exact (nomatch ‹false = true›)) | (exact (nomatch ‹true = false›)) | walk_at "dl"))
local macro_rules | `(tactic| walk_at "dlr") => `(tactic| (refine ret_rt (pms_d _ _ (Nat.le_of_ble_eq_true rfl)) ?_))
local macro_rules | `(tactic| walk_at "dlt") => `(tactic| first | walk_at "dl" | with_reducible refine ev_tup2 ?_ | with_reducible refine ev_tup3 ?_)
local macro_rules | `(tactic| walk_at "dlts") => `(tactic| repeat walk_at "dlt")
section
variable {P : Program} {w : World} {K : PySem.W.Frag} [HasTabs K] {mg : Str → Option Value} {base : Heap} {CH CD : Addr}
abbrev s_is_below : Stmt := topS 2
abbrev N_is_below : List Str := ["value", "bound"]
theorem sc_is_below : FnScope N_is_below ["value", "bound"] (defScope s_is_below) := ⟨rfl, rfl, rfl, by decide +kernel, rfl, by decide +kernel, by decide +kernel⟩
def isBelow (x : Dat) (b : Int) : Bool := match x with
  | .int i => decide (0 ≤ i) && decide (i < b)
  | _ => false
def R_is_below : List Dat → Dat → Prop := fun ds d => ∃ (x : Dat) (b : Int), ds = [x, .int b] ∧ x.tyn.isSome = true ∧ d = .bl (isBelow x b)
abbrev Rp_is_number : Pr := pureR R_is_number
theorem ok_is_below (T : Txt mg) (O_is_number : Ok P w K mg base 1 "is_number" ["value"] (pureR R_is_number)) (F : Dfn K mg "is_below" "is_below" s_is_below ["value", "bound"]) : Ok P w K mg base 2 "is_below" ["value", "bound"] (pureR R_is_below) := by
  refine F.ok sc_is_below (by decide) (fun os Pp h => ?_) pureR_noex (fun f cdv A outer s H E hr => ⟨_, (pss_one (ps_ret (pe_and (pe_fn O_is_number ⟨rfl, rfl, rfl, rfl, rfl⟩ (hr.mono (by decide)) rfl (pa_cons (pv 0) pa_nil)) (pe_one (pe_cmpR op_lt (pv 0) (pv 1) (nomark _)))))), fun os Pp h => ?_⟩)
  · obtain ⟨ds, d, rfl, ⟨x, b, rfl, hx, rfl⟩, q⟩ := h
    rfl
  · obtain ⟨ds, d, rfl, ⟨x, b, rfl, hx, rfl⟩, q⟩ := h
    show SvP K E0 _ [some (.d x), some (.d (.int b))] _
    walk_at "dls"
    refine ⟨[x], _, rfl, ⟨x, rfl, hx, rfl⟩, ?_⟩
    walk_at "dl"
    refine ⟨_, rfl, fun hb => ?_, fun hb => ?_⟩
    · cases x with
      | int i =>
        walk_at "dls"; walk_at "dlr"
        rw [show decide (i < b) = isBelow (.int i) b by show decide (i < b) = (decide (0 ≤ i) && decide (i < b)); rw [show decide (0 ≤ i) = true from hb, Bool.true_and]]
        exact q
      | _ => exact (nomatch hb)
    · walk_at "dls"; walk_at "dlr"
      have e : isBelow x b = false := by
        cases x with
        | int i => show (decide (0 ≤ i) && decide (i < b)) = false; rw [show decide (0 ≤ i) = false from hb, Bool.false_and]
        | _ => rfl
      rw [e] at q
      exact q

end
end K02

namespace K02
open PySem L2 Evl DL
local macro_rules | `(tactic| walk_at "dl") => `(tactic| first
  | with_reducible refine bnd_ok ?_ | with_reducible refine bndS_ok ?_ | with_reducible refine onE_ok ?_ | with_reducible refine seq_nx ?_ | with_reducible refine seq_rt ?_ | with_reducible refine seq_bk ?_ | with_reducible refine seq_ct ?_ | with_reducible refine onT_rt ?_ | with_reducible refine onT_bk ?_ | with_reducible refine resS_nx ?_ | with_reducible refine resS_rt ?_
  | refine ev_v rfl ?_ | refine ev_l rfl ?_ | with_reducible refine ev_i ?_ | with_reducible refine ev_n ?_ | with_reducible refine ev_b ?_ | with_reducible refine ev_s ?_
  | with_reducible refine ev_oZ0 ?_ | with_reducible refine ev_oB0 ?_ | with_reducible refine ev_oZ ?_ | with_reducible refine ev_neg ?_ | with_reducible refine ev_neI ?_ | with_reducible refine ev_eqI ?_ | with_reducible refine ev_isN ?_ | with_reducible refine ev_notN ?_ | with_reducible refine ev_chain ?_
  | with_reducible refine ev_andV ?_ | with_reducible refine ev_orV ?_ | with_reducible refine ev_notV ?_ | with_reducible refine ev_if ?_
  | with_reducible refine tv_test ?_ | with_reducible refine tv_B ?_ | with_reducible refine tv_and ?_ | with_reducible refine tv_or ?_ | with_reducible refine tv_not ?_ | with_reducible refine tv_yes ?_
  | with_reducible refine ev_isiInt ?_ | with_reducible refine ev_isiBool ?_ | with_reducible refine ev_isiSeq ?_
  | with_reducible refine av_cons ?_ | with_reducible refine av_nil ?_
  | with_reducible refine ev_pure ?_ | with_reducible refine ev_gcd ?_ | with_reducible refine ev_abs ?_ | with_reducible refine ev_int1 ?_
  | (with_reducible refine DL.ev_len ?_; refine av_cons ?_; refine ev_v rfl ?_; refine bnd_ok ?_; refine av_nil ?_; refine ⟨_, _, _, rfl, by first | rfl | assumption, ?_⟩)
  | with_reducible refine ev_fldD ?_ | with_reducible refine ev_ixS ?_
  | with_reducible refine sv_seq ?_ | with_reducible refine sv_next ?_ | with_reducible refine sv_brk ?_ | with_reducible refine sv_cont ?_ | with_reducible refine sv_ret ?_ | with_reducible refine sv_retN ?_ | with_reducible refine sv_if ?_ | with_reducible refine sv_drop ?_
  | with_reducible refine sv_asg ?_
  | refine ⟨_, rfl, fun hb => ?_, fun hb => ?_⟩
  | refine ⟨_, _, rfl, rfl, fun hb => ?_, fun hb => ?_⟩
  | refine ⟨_, _, rfl, rfl, ?_⟩
  | refine ⟨_, _, _, _, rfl, rfl, rfl, ?_⟩
  | refine ⟨_, rfl, ?_⟩ | refine ⟨_, _, rfl, ?_⟩
  | refine And.intro rfl ?_ | refine And.intro (Nat.le_of_ble_eq_true rfl) ?_ | refine And.intro (by assumption) ?_)
local macro_rules | `(tactic| walk_at "dls") => `(tactic| repeat (walk_at "dl"; all_goals try (first | (exact (nomatch ‹false = true›)) | (exact (nomatch ‹true = false›)))))
local macro_rules | `(tactic| walk_at "dla") => `(tactic| repeat' (first | (exact (nomatch ‹false = true›)) | (exact (nomatch ‹true = false›)) | walk_at "dl"))
local macro_rules | `(tactic| walk_at "dlr") => `(tactic| (refine ret_rt (pms_d _ _ (Nat.le_of_ble_eq_true rfl)) ?_))
local macro_rules | `(tactic| walk_at "dlt") => `(tactic| first | walk_at "dl" | with_reducible refine ev_tup2 ?_ | with_reducible refine ev_tup3 ?_)
local macro_rules | `(tactic| walk_at "dlts") => `(tactic| repeat walk_at "dlt")
section
variable {P : Program} {w : World} {K : PySem.W.Frag} [HasTabs K] {mg : Str → Option Value} {base : Heap} {CH CD : Addr}
abbrev s_is_marks_number : Stmt := topS 20
abbrev N_is_marks_number : List Str := ["value"]
theorem sc_is_marks_number : FnScope N_is_marks_number ["value"] (defScope s_is_marks_number) := ⟨rfl, rfl, rfl, by decide +kernel, rfl, by decide +kernel, by decide +kernel⟩
def isMarks (x : Dat) : Bool := match x with
  | .int i => decide (0 < i) && decide (i < 61)
  | _ => false
def R_is_marks_number : List Dat → Dat → Prop := fun ds d => ∃ x : Dat, ds = [x] ∧ x.tyn.isSome = true ∧ d = .bl (isMarks x)
theorem ok_is_marks_number (T : Txt mg) (O_is_below : Ok P w K mg base 2 "is_below" ["value", "bound"] (pureR R_is_below)) (F : Dfn K mg "is_marks_number" "is_marks_number" s_is_marks_number ["value"]) : Ok P w K mg base 3 "is_marks_number" ["value"] (pureR R_is_marks_number) := by
  refine F.ok sc_is_marks_number (by decide) (fun os Pp h => ?_) pureR_noex (fun f cdv A outer s H E hr => ⟨_, (pss_one (ps_ret (pe_and (pe_fn O_is_below ⟨rfl, rfl, rfl, rfl, rfl⟩ (hr.mono (by decide)) rfl (pa_cons (pv 0) (pa_cons (pe_op op_add (pe_const T.c_MOST_MARKS rfl) pe_int) pa_nil))) (pe_one (pe_cmpR op_gt (pv 0) pe_int (nomark _)))))), fun os Pp h => ?_⟩)
  · obtain ⟨ds, d, rfl, ⟨x, rfl, hx, rfl⟩, q⟩ := h
    rfl
  · obtain ⟨ds, d, rfl, ⟨x, rfl, hx, rfl⟩, q⟩ := h
    show SvP K E0 _ [some (.d x)] _
    walk_at "dls"
    refine ⟨[x, .int 61], _, rfl, ⟨x, 61, rfl, hx, rfl⟩, ?_⟩
    walk_at "dl"
    refine ⟨_, rfl, fun hb => ?_, fun hb => ?_⟩
    · cases x with
      | int i =>
        walk_at "dls"; walk_at "dlr"
        rw [show decide (i > 0) = isMarks (.int i) by
          show decide (0 < i) = (decide (0 < i) && decide (i < 61))
          have : (decide (0 ≤ i) && decide (i < 61)) = true := hb
          simp at this
          rw [show decide (i < 61) = true by simp [this.2], Bool.and_true]]
        exact q
      | _ => exact absurd (show false = true from hb) (by decide)
    · walk_at "dls"; walk_at "dlr"
      have e : isMarks x = false := by
        cases x with
        | int i =>
          have : (decide (0 ≤ i) && decide (i < 61)) = false := hb
          show (decide (0 < i) && decide (i < 61)) = false
          simp at this ⊢
          omega
        | _ => rfl
      rw [e] at q
      exact q

end
end K02

namespace K02
open PySem L2 Evl DL
local macro_rules | `(tactic| walk_at "dl") => `(tactic| first
  | with_reducible refine bnd_ok ?_ | with_reducible refine bndS_ok ?_ | with_reducible refine onE_ok ?_ | with_reducible refine seq_nx ?_ | with_reducible refine seq_rt ?_ | with_reducible refine seq_bk ?_ | with_reducible refine seq_ct ?_ | with_reducible refine onT_rt ?_ | with_reducible refine onT_bk ?_ | with_reducible refine resS_nx ?_ | with_reducible refine resS_rt ?_
  | refine ev_v rfl ?_ | refine ev_l rfl ?_ | with_reducible refine ev_i ?_ | with_reducible refine ev_n ?_ | with_reducible refine ev_b ?_ | with_reducible refine ev_s ?_
  | with_reducible refine ev_oZ0 ?_ | with_reducible refine ev_oB0 ?_ | with_reducible refine ev_oZ ?_ | with_reducible refine ev_neg ?_ | with_reducible refine ev_neI ?_ | with_reducible refine ev_eqI ?_ | with_reducible refine ev_isN ?_ | with_reducible refine ev_notN ?_ | with_reducible refine ev_chain ?_
  | with_reducible refine ev_andV ?_ | with_reducible refine ev_orV ?_ | with_reducible refine ev_notV ?_ | with_reducible refine ev_if ?_
  | with_reducible refine tv_test ?_ | with_reducible refine tv_B ?_ | with_reducible refine tv_and ?_ | with_reducible refine tv_or ?_ | with_reducible refine tv_not ?_ | with_reducible refine tv_yes ?_
  | with_reducible refine ev_isiInt ?_ | with_reducible refine ev_isiBool ?_ | with_reducible refine ev_isiSeq ?_
  | with_reducible refine av_cons ?_ | with_reducible refine av_nil ?_
  | with_reducible refine ev_pure ?_ | with_reducible refine ev_gcd ?_ | with_reducible refine ev_abs ?_ | with_reducible refine ev_int1 ?_
  | (with_reducible refine DL.ev_len ?_; refine av_cons ?_; refine ev_v rfl ?_; refine bnd_ok ?_; refine av_nil ?_; refine ⟨_, _, _, rfl, by first | rfl | assumption, ?_⟩)
  | with_reducible refine ev_fldD ?_ | with_reducible refine ev_ixS ?_
  | with_reducible refine sv_seq ?_ | with_reducible refine sv_next ?_ | with_reducible refine sv_brk ?_ | with_reducible refine sv_cont ?_ | with_reducible refine sv_ret ?_ | with_reducible refine sv_retN ?_ | with_reducible refine sv_if ?_ | with_reducible refine sv_drop ?_
  | with_reducible refine sv_asg ?_
  | refine ⟨_, rfl, fun hb => ?_, fun hb => ?_⟩
  | refine ⟨_, _, rfl, rfl, fun hb => ?_, fun hb => ?_⟩
  | refine ⟨_, _, rfl, rfl, ?_⟩
  | refine ⟨_, _, _, _, rfl, rfl, rfl, ?_⟩
  | refine ⟨_, rfl, ?_⟩ | refine ⟨_, _, rfl, ?_⟩
  | refine And.intro rfl ?_ | refine And.intro (Nat.le_of_ble_eq_true rfl) ?_ | refine And.intro (by assumption) ?_)
local macro_rules | `(tactic| walk_at "dls") => `(tactic| repeat (walk_at "dl"; all_goals try (first | (exact (nomatch ‹false = true›)) | (exact (nomatch ‹true = false›)))))
local macro_rules | `(tactic| walk_at "dla") => `(tactic| repeat' (first | (exact (nomatch ‹false = true›)) | (exact (nomatch ‹true = false›)) | walk_at "dl"))
local macro_rules | `(tactic| walk_at "dlr") => `(tactic| (refine ret_rt (pms_d _ _ (Nat.le_of_ble_eq_true rfl)) ?_))
local macro_rules | `(tactic| walk_at "dlt") => `(tactic| first | walk_at "dl" | with_reducible refine ev_tup2 ?_ | with_reducible refine ev_tup3 ?_)
local macro_rules | `(tactic| walk_at "dlts") => `(tactic| repeat walk_at "dlt")
section
variable {P : Program} {w : World} {K : PySem.W.Frag} [HasTabs K] {mg : Str → Option Value} {base : Heap} {CH CD : Addr}
abbrev s_wrong_marks : Stmt := topS 21
abbrev N_wrong_marks : List Str := ["value", "fewest", "most", "at", "marks"]
theorem sc_wrong_marks : FnScope N_wrong_marks ["value", "fewest", "most"] (defScope s_wrong_marks) := ⟨rfl, rfl, rfl, by decide +kernel, rfl, by decide +kernel, by decide +kernel⟩
def Good (ms : List Int) : Prop := 2 ≤ ms.length ∧ ms.length ≤ 8 ∧ ∀ m ∈ ms, 1 ≤ m ∧ m ≤ 60
def R_wrong_marks : List Dat → Dat → Prop := fun ds d => ∃ (y : Dat) (t : Bool) (ms : List Int), ds = [y, .int 2, .int 8] ∧ y.tyn.isSome = true ∧ y.seq = some (t, ms.map Dat.int) ∧ Good ms ∧ d = .non
theorem seq_isSeq {y : Dat} {t : Bool} {ds : List Dat} (h : y.seq = some (t, ds)) : y.isSeq = true := by
  cases y <;> first | rfl | (exact absurd h (by intro z; cases z))
theorem ok_wrong_marks (T : Txt mg) (O_is_sequence : Ok P w K mg base 1 "is_sequence" ["value"] (pureR R_is_sequence)) (O_is_marks_number : Ok P w K mg base 3 "is_marks_number" ["value"] (pureR R_is_marks_number)) (F : DfnT K mg "wrong_marks" "wrong_marks" s_wrong_marks ["value", "fewest", "most"] (.int 2) (.int 8)) : Ok P w K mg base 4 "wrong_marks" ["value", "fewest", "most"] (pureR R_wrong_marks) ∧ OkT P w K mg base 4 "wrong_marks" ["value", "fewest", "most"] (pureR R_wrong_marks) (.int 2) (.int 8) := by
  refine F.ok sc_wrong_marks (by decide) (fun os Pp h => ?_) pureR_noex (fun f cdv A outer s H E hr => ⟨_, (pss_cons (ps_if (PW.pt (pw_or (pt_not (pt_val (pe_fn O_is_sequence ⟨rfl, rfl, rfl, rfl, rfl⟩ (hr.mono (by decide)) rfl (pa_cons (pv 0) pa_nil)))) (pw_or (pt_cmpR op_lt (pe_callB (r := rLenQ K) call_len_seq (by rfl) T.b_len (by decide +kernel) (pa_cons (pv 0) pa_nil)) (pv 1) (nomark _)) (pw_or1 (pt_cmpR op_gt (pe_callB (r := rLenQ K) call_len_seq (by rfl) T.b_len (by decide +kernel) (pa_cons (pv 0) pa_nil)) (pv 2) (nomark _)))))) (pss_one (ps_ret (pe_un un_neg pe_int))) pss_nil) (pss_cons (ps_for PassesOwn.never rfl (pi_enumK (K := K) rfl (by rfl) T.b_enumerate (pa_cons (pv 0) pa_nil)) (pg_tup rfl (pgs_cons (pg_name (i := 3) sc_wrong_marks.nd rfl (.inl rfl)) (pgs_cons (pg_name (i := 4) sc_wrong_marks.nd rfl (.inl rfl)) pgs_nil))) (pss_one (ps_if (pt_not (pt_val (pe_fn O_is_marks_number ⟨rfl, rfl, rfl, rfl, rfl⟩ (hr.mono (by decide)) rfl (pa_cons (pv 4) pa_nil)))) (pss_one (ps_ret (pv 3))) pss_nil))) (pss_one (ps_ret pe_non)))), fun os Pp h => ?_⟩)
  · obtain ⟨ds, d, rfl, ⟨y, t, ms, rfl, hx, hy, hg, rfl⟩, q⟩ := h
    rfl
  · obtain ⟨ds, d, rfl, ⟨y, t, ms, rfl, hx, hy, ⟨g1, g2, g3⟩, rfl⟩, q⟩ := h
    show SvP K E0 _ [some (.d y), some (.d (.int 2)), some (.d (.int 8)), none, none] _
    walk_at "dls"
    refine ⟨[y], _, rfl, ⟨y, rfl, hx, rfl⟩, ?_⟩
    walk_at "dls"
    · rename_i hb _
      rw [seq_isSeq hy] at hb
      exact nomatch hb
    · walk_at "dls"
      · rename_i hb _
        rw [List.length_map] at hb
        simp at hb
        omega
      · walk_at "dls"
        · rename_i hb
          rw [List.length_map] at hb
          simp at hb
          omega
        · walk_at "dls"
          refine sv_for (ws := [3] ++ ([4] ++ [])) ?_
          refine iv_enum ?_
          walk_at "dls"
          refine ⟨_, _, _, rfl, hy, ?_⟩
          refine loop_inv (ws := [3] ++ ([4] ++ [])) (fun i ρ' => ∃ u v, ρ' = [some (.d y), some (.d (.int 2)), some (.d (.int 8)), u, v]) ⟨_, _, rfl⟩ (fun i d ρ' hi he => ?_) (fun ρ' he => ?_)
          · obtain ⟨u, v, rfl⟩ := he
            have hd : ∃ m ∈ ms, d = .tup [.int (i : Int), .int m] := by
              cases hm : (ms.map Dat.int)[i]? with
              | none =>
                have : (enumD (ms.map Dat.int))[i]? = none := by
                  rw [List.getElem?_eq_none_iff] at hm ⊢
                  rw [enumD_len]
                  exact hm
                rw [this] at hi
                cases hi
              | some z =>
                have := enumD_get hm
                rw [this] at hi
                rw [List.getElem?_map] at hm
                cases hm2 : ms[i]? with
                | none => rw [hm2] at hm; cases hm
                | some m =>
                  rw [hm2] at hm
                  cases hm
                  exact ⟨m, List.mem_of_getElem? hm2, (Option.some.inj hi).symm⟩
            obtain ⟨m, hm, rfl⟩ := hd
            refine gv_tup rfl (gs_cons (gv_name (Nat.le_of_ble_eq_true rfl) (gs_cons (gv_name (Nat.le_of_ble_eq_true rfl) (gs_nil ?_)))))
            walk_at "dls"
            refine ⟨[.int m], _, rfl, ⟨_, rfl, rfl, rfl⟩, ?_⟩
            have e : isMarks (.int m) = true := by
              have := g3 m hm
              show (decide (0 < m) && decide (m < 61)) = true
              simp
              omega
            rw [e]
            walk_at "dls"
            exact onT_nx (Wk.refl _) ⟨_, _, rfl⟩
          · obtain ⟨u, v, rfl⟩ := he
            walk_at "dls"; walk_at "dlr"
            exact q

end
end K02

namespace K02
open PySem L2 Evl DL
local macro_rules | `(tactic| walk_at "dl") => `(tactic| first
  | with_reducible refine bnd_ok ?_ | with_reducible refine bndS_ok ?_ | with_reducible refine onE_ok ?_ | with_reducible refine seq_nx ?_ | with_reducible refine seq_rt ?_ | with_reducible refine seq_bk ?_ | with_reducible refine seq_ct ?_ | with_reducible refine onT_rt ?_ | with_reducible refine onT_bk ?_ | with_reducible refine resS_nx ?_ | with_reducible refine resS_rt ?_
  | refine ev_v rfl ?_ | refine ev_l rfl ?_ | with_reducible refine ev_i ?_ | with_reducible refine ev_n ?_ | with_reducible refine ev_b ?_ | with_reducible refine ev_s ?_
  | with_reducible refine ev_oZ0 ?_ | with_reducible refine ev_oB0 ?_ | with_reducible refine ev_oZ ?_ | with_reducible refine ev_neg ?_ | with_reducible refine ev_neI ?_ | with_reducible refine ev_eqI ?_ | with_reducible refine ev_isN ?_ | with_reducible refine ev_notN ?_ | with_reducible refine ev_chain ?_
  | with_reducible refine ev_andV ?_ | with_reducible refine ev_orV ?_ | with_reducible refine ev_notV ?_ | with_reducible refine ev_if ?_
  | with_reducible refine tv_test ?_ | with_reducible refine tv_B ?_ | with_reducible refine tv_and ?_ | with_reducible refine tv_or ?_ | with_reducible refine tv_not ?_ | with_reducible refine tv_yes ?_
  | with_reducible refine ev_isiInt ?_ | with_reducible refine ev_isiBool ?_ | with_reducible refine ev_isiSeq ?_
  | with_reducible refine av_cons ?_ | with_reducible refine av_nil ?_
  | with_reducible refine ev_pure ?_ | with_reducible refine ev_gcd ?_ | with_reducible refine ev_abs ?_ | with_reducible refine ev_int1 ?_
  | (with_reducible refine DL.ev_len ?_; refine av_cons ?_; refine ev_v rfl ?_; refine bnd_ok ?_; refine av_nil ?_; refine ⟨_, _, _, rfl, by first | rfl | assumption, ?_⟩)
  | with_reducible refine ev_fldD ?_ | with_reducible refine ev_ixS ?_
  | with_reducible refine sv_seq ?_ | with_reducible refine sv_next ?_ | with_reducible refine sv_brk ?_ | with_reducible refine sv_cont ?_ | with_reducible refine sv_ret ?_ | with_reducible refine sv_retN ?_ | with_reducible refine sv_if ?_ | with_reducible refine sv_drop ?_
  | with_reducible refine sv_asg ?_
  | refine ⟨_, rfl, fun hb => ?_, fun hb => ?_⟩
  | refine ⟨_, _, rfl, rfl, fun hb => ?_, fun hb => ?_⟩
  | refine ⟨_, _, rfl, rfl, ?_⟩
  | refine ⟨_, _, _, _, rfl, rfl, rfl, ?_⟩
  | refine ⟨_, rfl, ?_⟩ | refine ⟨_, _, rfl, ?_⟩
  | refine And.intro rfl ?_ | refine And.intro (Nat.le_of_ble_eq_true rfl) ?_ | refine And.intro (by assumption) ?_)
local macro_rules | `(tactic| walk_at "dls") => `(tactic| repeat (walk_at "dl"; all_goals try (first | (exact (nomatch ‹false = true›)) | (exact (nomatch ‹true = false›)))))
local macro_rules | `(tactic| walk_at "dla") => `(tactic| repeat' (first | (exact (nomatch ‹false = true›)) | (exact (nomatch ‹true = false›)) | walk_at "dl"))
local macro_rules | `(tactic| walk_at "dlr") => `(tactic| (refine ret_rt (pms_d _ _ (Nat.le_of_ble_eq_true rfl)) ?_))
local macro_rules | `(tactic| walk_at "dlt") => `(tactic| first | walk_at "dl" | with_reducible refine ev_tup2 ?_ | with_reducible refine ev_tup3 ?_)
local macro_rules | `(tactic| walk_at "dlts") => `(tactic| repeat walk_at "dlt")
section
variable {P : Program} {w : World} {K : PySem.W.Frag} [HasTabs K] {mg : Str → Option Value} {base : Heap} {CH CD : Addr}
end
structure ClHands (K : PySem.W.Frag) (CH : Addr) : Prop where
  c : Cls K CH
  m : NoAttr K CH "marks"
  n : NoAttr K CH "many"
section
variable {P : Program} {w : World} {K : PySem.W.Frag} [HasTabs K] {mg : Str → Option Value} {base : Heap} {CH CD : Addr}

end
end K02

namespace K02
open PySem L2 Evl DL
local macro_rules | `(tactic| walk_at "dl") => `(tactic| first
  | with_reducible refine bnd_ok ?_ | with_reducible refine bndS_ok ?_ | with_reducible refine onE_ok ?_ | with_reducible refine seq_nx ?_ | with_reducible refine seq_rt ?_ | with_reducible refine seq_bk ?_ | with_reducible refine seq_ct ?_ | with_reducible refine onT_rt ?_ | with_reducible refine onT_bk ?_ | with_reducible refine resS_nx ?_ | with_reducible refine resS_rt ?_
  | refine ev_v rfl ?_ | refine ev_l rfl ?_ | with_reducible refine ev_i ?_ | with_reducible refine ev_n ?_ | with_reducible refine ev_b ?_ | with_reducible refine ev_s ?_
  | with_reducible refine ev_oZ0 ?_ | with_reducible refine ev_oB0 ?_ | with_reducible refine ev_oZ ?_ | with_reducible refine ev_neg ?_ | with_reducible refine ev_neI ?_ | with_reducible refine ev_eqI ?_ | with_reducible refine ev_isN ?_ | with_reducible refine ev_notN ?_ | with_reducible refine ev_chain ?_
  | with_reducible refine ev_andV ?_ | with_reducible refine ev_orV ?_ | with_reducible refine ev_notV ?_ | with_reducible refine ev_if ?_
  | with_reducible refine tv_test ?_ | with_reducible refine tv_B ?_ | with_reducible refine tv_and ?_ | with_reducible refine tv_or ?_ | with_reducible refine tv_not ?_ | with_reducible refine tv_yes ?_
  | with_reducible refine ev_isiInt ?_ | with_reducible refine ev_isiBool ?_ | with_reducible refine ev_isiSeq ?_
  | with_reducible refine av_cons ?_ | with_reducible refine av_nil ?_
  | with_reducible refine ev_pure ?_ | with_reducible refine ev_gcd ?_ | with_reducible refine ev_abs ?_ | with_reducible refine ev_int1 ?_
  | (with_reducible refine DL.ev_len ?_; refine av_cons ?_; refine ev_v rfl ?_; refine bnd_ok ?_; refine av_nil ?_; refine ⟨_, _, _, rfl, by first | rfl | assumption, ?_⟩)
  | with_reducible refine ev_fldD ?_ | with_reducible refine ev_ixS ?_
  | with_reducible refine sv_seq ?_ | with_reducible refine sv_next ?_ | with_reducible refine sv_brk ?_ | with_reducible refine sv_cont ?_ | with_reducible refine sv_ret ?_ | with_reducible refine sv_retN ?_ | with_reducible refine sv_if ?_ | with_reducible refine sv_drop ?_
  | with_reducible refine sv_asg ?_
  | refine ⟨_, rfl, fun hb => ?_, fun hb => ?_⟩
  | refine ⟨_, _, rfl, rfl, fun hb => ?_, fun hb => ?_⟩
  | refine ⟨_, _, rfl, rfl, ?_⟩
  | refine ⟨_, _, _, _, rfl, rfl, rfl, ?_⟩
  | refine ⟨_, rfl, ?_⟩ | refine ⟨_, _, rfl, ?_⟩
  | refine And.intro rfl ?_ | refine And.intro (Nat.le_of_ble_eq_true rfl) ?_ | refine And.intro (by assumption) ?_)
local macro_rules | `(tactic| walk_at "dls") => `(tactic| repeat (walk_at "dl"; all_goals try (first | (exact (nomatch ‹false = true›)) | (exact (nomatch ‹true = false›)))))
local macro_rules | `(tactic| walk_at "dla") => `(tactic| repeat' (first | (exact (nomatch ‹false = true›)) | (exact (nomatch ‹true = false›)) | walk_at "dl"))
local macro_rules | `(tactic| walk_at "dlr") => `(tactic| (refine ret_rt (pms_d _ _ (Nat.le_of_ble_eq_true rfl)) ?_))
local macro_rules | `(tactic| walk_at "dlt") => `(tactic| first | walk_at "dl" | with_reducible refine ev_tup2 ?_ | with_reducible refine ev_tup3 ?_)
local macro_rules | `(tactic| walk_at "dlts") => `(tactic| repeat walk_at "dlt")
section
variable {P : Program} {w : World} {K : PySem.W.Frag} [HasTabs K] {mg : Str → Option Value} {base : Heap} {CH CD : Addr}
abbrev fsH (ms : List Int) : List (Str × Dat) := [("marks", .tup (ms.map Dat.int)), ("many", .int ms.length)]
abbrev hObj (CH : Addr) (ms : List Int) : Dat := .obj CH (fsH ms)
abbrev s_Hands___init__ : Stmt := inClass (topS 19) 0
abbrev N_Hands___init__ : List Str := ["self", "marks", "at"]
theorem sc_Hands___init__ : FnScope N_Hands___init__ ["self", "marks"] (defScope s_Hands___init__) := ⟨rfl, rfl, rfl, by decide +kernel, rfl, by decide +kernel, by decide +kernel⟩
def R_Hands (CH : Addr) : Pr := fun os Pp => ∃ (a : Addr) (y : Dat) (t : Bool) (ms : List Int), os = [.o a CH [], .d y] ∧ y.tyn.isSome = true ∧ y.seq = some (t, ms.map Dat.int) ∧ Good ms ∧ Pp (.ok (.d .non)) [.o a CH (fsH ms), .d y]
theorem R_Hands_noex (os : List Ow) (Pp : Re → List Ow → Prop) (h : R_Hands CH os Pp) : R_Hands CH os (fun r us => (match r with | .ok _ => True | .ex _ _ => False) ∧ Pp r us) := by
  obtain ⟨a, y, t, ms, h1, h2, h3, h4, q⟩ := h
  exact ⟨a, y, t, ms, h1, h2, h3, h4, trivial, q⟩
theorem R_Hands_mono (os : List Ow) (A B : Re → List Ow → Prop) (m : ∀ r os, A r os → B r os) (h : R_Hands CH os A) : R_Hands CH os B := by
  obtain ⟨a, y, t, ms, h1, h2, h3, h4, q⟩ := h
  exact ⟨a, y, t, ms, h1, h2, h3, h4, m _ _ q⟩
theorem ok_Hands (T : Txt mg) (LH : ClHands K CH) (OT_wrong_marks : OkT P w K mg base 4 "wrong_marks" ["value", "fewest", "most"] (pureR R_wrong_marks) (.int 2) (.int 8)) (F : Cfn K mg "Hands" "Hands.__init__" s_Hands___init__ ["self", "marks"] CH) : OkC P w K mg base 5 "Hands" ["self", "marks"] CH (R_Hands CH) := by
  refine F.ok sc_Hands___init__ (by decide) (fun os Pp h => ?_) R_Hands_noex (fun f cdv A outer s H E hr => ⟨_, (pss_cons (ps_set (i := 2) sc_Hands___init__.nd rfl (.inl rfl) (pe_fnT OT_wrong_marks ⟨rfl, rfl, rfl, rfl, rfl⟩ (hr.mono (by decide)) rfl (pa_cons (pv 1) pa_nil))) (pss_cons (ps_if (pt_cmpR op_notN1 (pv 2) pe_non (nomark _)) (pss_one ps_never) pss_nil) (pss_cons (ps_fldK (K := K) rfl (pv 0) (pe_callTy (r := rTupO K) call_tuple_of (by rfl) T.b_tuple (by decide +kernel) (pa_cons (pv 1) pa_nil)) rfl) (pss_one (ps_fldK (K := K) rfl (pv 0) (pe_callB (r := rLenQ K) call_len_seq (by rfl) T.b_len (by decide +kernel) (pa_cons (pe_fldK (K := K) rfl (pv 0) rfl) pa_nil)) rfl))))), fun os Pp h => ?_⟩)
  · obtain ⟨a, y, t, ms, rfl, h2, h3, h4, q⟩ := h
    rfl
  · obtain ⟨a, y, t, ms, rfl, h2, h3, h4, q⟩ := h
    show SvP K E0 _ [some (.o a CH []), some (.d y), none] _
    walk_at "dl"
    walk_at "dl"
    refine ev_callD [.int 2, .int 8] rfl ?_
    walk_at "dls"
    refine ⟨[y, .int 2, .int 8], _, rfl, ⟨y, t, ms, rfl, h2, h3, h4, rfl⟩, ?_⟩
    walk_at "dls"
    refine sv_fld ?_
    refine DL.ev_tupD ?_
    walk_at "dls"
    refine ⟨_, _, _, rfl, h3, ?_⟩
    walk_at "dl"
    refine ⟨_, _, _, _, rfl, rfl, LH.c, LH.m, Nat.le_of_ble_eq_true rfl, ?_⟩
    walk_at "dls"
    refine sv_fld ?_
    refine DL.ev_len ?_
    refine av_cons ?_
    refine ev_fldO ?_
    refine ⟨a, CH, [("marks", .tup (ms.map Dat.int))], .tup (ms.map Dat.int), rfl, LH.c, LH.m, rfl, ?_⟩
    walk_at "dls"
    refine ⟨_, _, _, rfl, rfl, ?_⟩
    walk_at "dls"
    refine ⟨_, _, _, _, rfl, rfl, LH.c, LH.n, Nat.le_of_ble_eq_true rfl, ?_⟩
    refine ret_nx (.own rfl rfl (.dat .nil)) ?_
    rw [List.length_map]
    exact q


end
end K02

namespace K02
open PySem L2 Evl DL
local macro_rules | `(tactic| walk_at "dl") => `(tactic| first
  | with_reducible refine bnd_ok ?_ | with_reducible refine bndS_ok ?_ | with_reducible refine onE_ok ?_ | with_reducible refine seq_nx ?_ | with_reducible refine seq_rt ?_ | with_reducible refine seq_bk ?_ | with_reducible refine seq_ct ?_ | with_reducible refine onT_rt ?_ | with_reducible refine onT_bk ?_ | with_reducible refine resS_nx ?_ | with_reducible refine resS_rt ?_
  | refine ev_v rfl ?_ | refine ev_l rfl ?_ | with_reducible refine ev_i ?_ | with_reducible refine ev_n ?_ | with_reducible refine ev_b ?_ | with_reducible refine ev_s ?_
  | with_reducible refine ev_oZ0 ?_ | with_reducible refine ev_oB0 ?_ | with_reducible refine ev_oZ ?_ | with_reducible refine ev_neg ?_ | with_reducible refine ev_neI ?_ | with_reducible refine ev_eqI ?_ | with_reducible refine ev_isN ?_ | with_reducible refine ev_notN ?_ | with_reducible refine ev_chain ?_
  | with_reducible refine ev_andV ?_ | with_reducible refine ev_orV ?_ | with_reducible refine ev_notV ?_ | with_reducible refine ev_if ?_
  | with_reducible refine tv_test ?_ | with_reducible refine tv_B ?_ | with_reducible refine tv_and ?_ | with_reducible refine tv_or ?_ | with_reducible refine tv_not ?_ | with_reducible refine tv_yes ?_
  | with_reducible refine ev_isiInt ?_ | with_reducible refine ev_isiBool ?_ | with_reducible refine ev_isiSeq ?_
  | with_reducible refine av_cons ?_ | with_reducible refine av_nil ?_
  | with_reducible refine ev_pure ?_ | with_reducible refine ev_gcd ?_ | with_reducible refine ev_abs ?_ | with_reducible refine ev_int1 ?_
  | (with_reducible refine DL.ev_len ?_; refine av_cons ?_; refine ev_v rfl ?_; refine bnd_ok ?_; refine av_nil ?_; refine ⟨_, _, _, rfl, by first | rfl | assumption, ?_⟩)
  | with_reducible refine ev_fldD ?_ | with_reducible refine ev_ixS ?_
  | with_reducible refine sv_seq ?_ | with_reducible refine sv_next ?_ | with_reducible refine sv_brk ?_ | with_reducible refine sv_cont ?_ | with_reducible refine sv_ret ?_ | with_reducible refine sv_retN ?_ | with_reducible refine sv_if ?_ | with_reducible refine sv_drop ?_
  | with_reducible refine sv_asg ?_
  | refine ⟨_, rfl, fun hb => ?_, fun hb => ?_⟩
  | refine ⟨_, _, rfl, rfl, fun hb => ?_, fun hb => ?_⟩
  | refine ⟨_, _, rfl, rfl, ?_⟩
  | refine ⟨_, _, _, _, rfl, rfl, rfl, ?_⟩
  | refine ⟨_, rfl, ?_⟩ | refine ⟨_, _, rfl, ?_⟩
  | refine And.intro rfl ?_ | refine And.intro (Nat.le_of_ble_eq_true rfl) ?_ | refine And.intro (by assumption) ?_)
local macro_rules | `(tactic| walk_at "dls") => `(tactic| repeat (walk_at "dl"; all_goals try (first | (exact (nomatch ‹false = true›)) | (exact (nomatch ‹true = false›)))))
local macro_rules | `(tactic| walk_at "dla") => `(tactic| repeat' (first | (exact (nomatch ‹false = true›)) | (exact (nomatch ‹true = false›)) | walk_at "dl"))
local macro_rules | `(tactic| walk_at "dlr") => `(tactic| (refine ret_rt (pms_d _ _ (Nat.le_of_ble_eq_true rfl)) ?_))
local macro_rules | `(tactic| walk_at "dlt") => `(tactic| first | walk_at "dl" | with_reducible refine ev_tup2 ?_ | with_reducible refine ev_tup3 ?_)
local macro_rules | `(tactic| walk_at "dlts") => `(tactic| repeat walk_at "dlt")
section
variable {P : Program} {w : World} {K : PySem.W.Frag} [HasTabs K] {mg : Str → Option Value} {base : Heap} {CH CD : Addr}
abbrev s_fits_bounds : Stmt := topS 4
abbrev N_fits_bounds : List Str := ["value", "bounds", "item", "bound"]
theorem sc_fits_bounds : FnScope N_fits_bounds ["value", "bounds"] (defScope s_fits_bounds) := ⟨rfl, rfl, rfl, by decide +kernel, rfl, by decide +kernel, by decide +kernel⟩
def fitsL (vs : List Dat) (bs : List Int) : Bool := decide (vs.length = bs.length) && (vs.zip bs).all fun p => isBelow p.1 p.2
def fitsB (x : Dat) (bs : List Int) : Bool := match x with
  | .lst vs => fitsL vs bs
  | .tup vs => fitsL vs bs
  | _ => false
def tynAll (x : Dat) : Prop := match x with
  | .lst vs => vs.length ≤ 100000 ∧ ∀ v ∈ vs, v.tyn.isSome = true
  | .tup vs => vs.length ≤ 100000 ∧ ∀ v ∈ vs, v.tyn.isSome = true
  | _ => True
def R_fits_bounds : List Dat → Dat → Prop := fun ds d => ∃ (x y : Dat) (t : Bool) (bs : List Int), ds = [x, y] ∧ x.tyn.isSome = true ∧ tynAll x ∧ y.seq = some (t, bs.map Dat.int) ∧ d = .bl (fitsB x bs)
theorem zipD_emb (vs : List Dat) (bs : List Int) : zipD vs (bs.map Dat.int) = (vs.zip bs).map fun p => .tup [p.1, .int p.2] := by
  unfold zipD
  induction vs generalizing bs with
  | nil => rfl
  | cons v vs ih =>
    cases bs with
    | nil => rfl
    | cons b bs =>
      have e := ih bs
      exact congrArg (List.cons _) e
theorem ok_fits_bounds (T : Txt mg) (O_is_sequence : Ok P w K mg base 1 "is_sequence" ["value"] (pureR R_is_sequence)) (O_is_below : Ok P w K mg base 2 "is_below" ["value", "bound"] (pureR R_is_below)) (F : Dfn K mg "fits_bounds" "fits_bounds" s_fits_bounds ["value", "bounds"]) : Ok P w K mg base 3 "fits_bounds" ["value", "bounds"] (pureR R_fits_bounds) := by
  refine F.ok sc_fits_bounds (by decide) (fun os Pp h => ?_) pureR_noex (fun f cdv A outer s H E hr => ⟨_, (pss_cons (ps_if (PW.pt (pw_or (pt_not (pt_val (pe_fn O_is_sequence ⟨rfl, rfl, rfl, rfl, rfl⟩ (hr.mono (by decide)) rfl (pa_cons (pv 0) pa_nil)))) (pw_or1 (pt_cmpR op_ne (pe_callB (r := rLenQ K) call_len_seq (by rfl) T.b_len (by decide +kernel) (pa_cons (pv 0) pa_nil)) (pe_callB (r := rLenQ K) call_len_seq (by rfl) T.b_len (by decide +kernel) (pa_cons (pv 1) pa_nil)) (nomark _))))) (pss_one (ps_ret pe_bl)) pss_nil) (pss_one (ps_ret (pe_callB (r := rAll K) (cr_all rfl) (by rfl) T.b_all (by decide +kernel) (pa_cons (pe_lc (own := [("item", 2), ("bound", 3)]) (g := gTup K 2 (gCons (gName 2) (gCons (gName 3) (gNil)))) (tt := tYes) rfl sc_fits_bounds.nd (pi_zipK (K := K) rfl (by rfl) T.b_zip (pa_cons (pv 0) (pa_cons (pv 1) pa_nil))) (blkOk_by (own := [("item", 2), ("bound", 3)]) (N := N_fits_bounds) (sc := defScope s_fits_bounds) (by decide +kernel)) (fun _ _ _ _ _ => (pg_tup rfl (pgs_cons (pg_name (i := 2) sc_fits_bounds.nd rfl (.inl rfl)) (pgs_cons (pg_name (i := 3) sc_fits_bounds.nd rfl (.inl rfl)) pgs_nil)))) (fun _ _ _ _ _ => pts_nil) (fun _ _ _ _ _ => (pe_fn O_is_below ⟨rfl, rfl, rfl, rfl, rfl⟩ (hr.mono (by decide)) rfl (pa_cons (pv 2) (pa_cons (pv 3) pa_nil))))) pa_nil))))), fun os Pp h => ?_⟩)
  · obtain ⟨ds, d, rfl, ⟨x, y, t, bs, rfl, hx, hz, hy, rfl⟩, q⟩ := h
    rfl
  · obtain ⟨ds, d, rfl, ⟨x, y, t, bs, rfl, hx, hz, hy, rfl⟩, q⟩ := h
    show SvP K E0 _ [some (.d x), some (.d y), none, none] _
    have fin : ∀ (r : Bool) (ρ : Rh), ρ.length = 4 → fitsB x bs = r → retS (List.map Ow.d [x, y]) Pp (.rt (.d (.bl r)) ρ) := fun r ρ hl e => by
      refine ret_rt (pms_d _ _ (by rw [hl]; exact Nat.le_of_ble_eq_true rfl)) ?_
      rw [← e]
      exact q
    walk_at "dls"
    refine ⟨[x], _, rfl, ⟨x, rfl, hx, rfl⟩, ?_⟩
    walk_at "dls"
    · rename_i hb _
      refine fin _ _ rfl ?_
      cases x <;> first | rfl | (exact absurd (show false = true from hb) (by decide))
    · rename_i hb
      obtain ⟨tx, vs, hs, he, hv⟩ : ∃ tx vs, x.seq = some (tx, vs) ∧ fitsB x bs = fitsL vs bs ∧ (vs.length ≤ 100000 ∧ ∀ v ∈ vs, v.tyn.isSome = true) := by
        cases x with
        | lst vs => exact ⟨_, vs, rfl, rfl, hz⟩
        | tup vs => exact ⟨_, vs, rfl, rfl, hz⟩
        | _ => exact absurd (show true = false from hb) (by decide)
      walk_at "dls"
      · rename_i hc
        refine fin _ _ rfl ?_
        rw [he]
        unfold fitsL
        rw [List.length_map] at hc
        have : ¬ vs.length = bs.length := fun e => by rw [e] at hc; simp at hc
        rw [decide_eq_false this, Bool.false_and]
      · rename_i hc
        rw [List.length_map] at hc
        have hlen : vs.length = bs.length := by
          by_cases e : vs.length = bs.length
          · exact e
          · exfalso
            have : ¬ ((vs.length : Int) = (bs.length : Int)) := fun z => e (by omega)
            rw [decide_eq_false this] at hc
            exact (nomatch hc)
        walk_at "dls"
        refine DL.ev_all ?_
        walk_at "dl"
        refine ev_lcM (ws := [2] ++ ([3] ++ [])) (α := Dat × Int) (fun p => .tup [p.1, .int p.2]) (fun p => .bl (isBelow p.1 p.2)) (by decide) ?_
        refine iv_zip ?_
        walk_at "dls"
        refine ⟨x, y, tx, t, vs, bs.map Dat.int, rfl, hs, hy, vs.zip bs, zipD_emb vs bs, by rw [List.length_zip]; omega, fun p hp => ?_, ?_⟩
        · refine gv_tup rfl (gs_cons (gv_name (Nat.le_of_ble_eq_true rfl) (gs_cons (gv_name (Nat.le_of_ble_eq_true rfl) (gs_nil ⟨rfl, ?_⟩)))))
          walk_at "dls"
          refine ⟨[p.1, .int p.2], _, rfl, ⟨p.1, p.2, rfl, hv.2 _ (List.of_mem_zip hp).1, rfl⟩, ?_⟩
          walk_at "dl"
          exact ⟨rfl, rfl⟩
        · walk_at "dls"
          refine ⟨(vs.zip bs).map fun p => isBelow p.1 p.2, by rw [List.map_map]; rfl, ?_⟩
          walk_at "dls"
          refine fin _ _ rfl ?_
          rw [he]
          unfold fitsL
          rw [decide_eq_true hlen, Bool.true_and, List.all_map]
          rfl

end
end K02

namespace K02
open PySem L2 Evl DL
local macro_rules | `(tactic| walk_at "dl") => `(tactic| first
  | with_reducible refine bnd_ok ?_ | with_reducible refine bndS_ok ?_ | with_reducible refine onE_ok ?_ | with_reducible refine seq_nx ?_ | with_reducible refine seq_rt ?_ | with_reducible refine seq_bk ?_ | with_reducible refine seq_ct ?_ | with_reducible refine onT_rt ?_ | with_reducible refine onT_bk ?_ | with_reducible refine resS_nx ?_ | with_reducible refine resS_rt ?_
  | refine ev_v rfl ?_ | refine ev_l rfl ?_ | with_reducible refine ev_i ?_ | with_reducible refine ev_n ?_ | with_reducible refine ev_b ?_ | with_reducible refine ev_s ?_
  | with_reducible refine ev_oZ0 ?_ | with_reducible refine ev_oB0 ?_ | with_reducible refine ev_oZ ?_ | with_reducible refine ev_neg ?_ | with_reducible refine ev_neI ?_ | with_reducible refine ev_eqI ?_ | with_reducible refine ev_isN ?_ | with_reducible refine ev_notN ?_ | with_reducible refine ev_chain ?_
  | with_reducible refine ev_andV ?_ | with_reducible refine ev_orV ?_ | with_reducible refine ev_notV ?_ | with_reducible refine ev_if ?_
  | with_reducible refine tv_test ?_ | with_reducible refine tv_B ?_ | with_reducible refine tv_and ?_ | with_reducible refine tv_or ?_ | with_reducible refine tv_not ?_ | with_reducible refine tv_yes ?_
  | with_reducible refine ev_isiInt ?_ | with_reducible refine ev_isiBool ?_ | with_reducible refine ev_isiSeq ?_
  | with_reducible refine av_cons ?_ | with_reducible refine av_nil ?_
  | with_reducible refine ev_pure ?_ | with_reducible refine ev_gcd ?_ | with_reducible refine ev_abs ?_ | with_reducible refine ev_int1 ?_
  | (with_reducible refine DL.ev_len ?_; refine av_cons ?_; refine ev_v rfl ?_; refine bnd_ok ?_; refine av_nil ?_; refine ⟨_, _, _, rfl, by first | rfl | assumption, ?_⟩)
  | with_reducible refine ev_fldD ?_ | with_reducible refine ev_ixS ?_
  | with_reducible refine sv_seq ?_ | with_reducible refine sv_next ?_ | with_reducible refine sv_brk ?_ | with_reducible refine sv_cont ?_ | with_reducible refine sv_ret ?_ | with_reducible refine sv_retN ?_ | with_reducible refine sv_if ?_ | with_reducible refine sv_drop ?_
  | with_reducible refine sv_asg ?_
  | refine ⟨_, rfl, fun hb => ?_, fun hb => ?_⟩
  | refine ⟨_, _, rfl, rfl, fun hb => ?_, fun hb => ?_⟩
  | refine ⟨_, _, rfl, rfl, ?_⟩
  | refine ⟨_, _, _, _, rfl, rfl, rfl, ?_⟩
  | refine ⟨_, rfl, ?_⟩ | refine ⟨_, _, rfl, ?_⟩
  | refine And.intro rfl ?_ | refine And.intro (Nat.le_of_ble_eq_true rfl) ?_ | refine And.intro (by assumption) ?_)
local macro_rules | `(tactic| walk_at "dls") => `(tactic| repeat (walk_at "dl"; all_goals try (first | (exact (nomatch ‹false = true›)) | (exact (nomatch ‹true = false›)))))
local macro_rules | `(tactic| walk_at "dla") => `(tactic| repeat' (first | (exact (nomatch ‹false = true›)) | (exact (nomatch ‹true = false›)) | walk_at "dl"))
local macro_rules | `(tactic| walk_at "dlr") => `(tactic| (refine ret_rt (pms_d _ _ (Nat.le_of_ble_eq_true rfl)) ?_))
local macro_rules | `(tactic| walk_at "dlt") => `(tactic| first | walk_at "dl" | with_reducible refine ev_tup2 ?_ | with_reducible refine ev_tup3 ?_)
local macro_rules | `(tactic| walk_at "dlts") => `(tactic| repeat walk_at "dlt")
section
variable {P : Program} {w : World} {K : PySem.W.Frag} [HasTabs K] {mg : Str → Option Value} {base : Heap} {CH CD : Addr}
abbrev s_is_log : Stmt := topS 26
abbrev N_is_log : List Str := ["value", "marks"]
theorem sc_is_log : FnScope N_is_log ["value", "marks"] (defScope s_is_log) := ⟨rfl, rfl, rfl, by decide +kernel, rfl, by decide +kernel, by decide +kernel⟩
def isLog (x : Dat) (m : Int) : Bool := match x.seq with
  | some (_, vs) => decide (vs.length ≤ 10000) && fitsL vs (List.replicate vs.length m)
  | none => false
def R_is_log : List Dat → Dat → Prop := fun ds d => ∃ (x : Dat) (m : Int), ds = [x, .int m] ∧ x.tyn.isSome = true ∧ tynAll x ∧ d = .bl (isLog x m)
theorem seq_none {x : Dat} (h : x.isSeq = false) : x.seq = none := by
  cases x <;> first | rfl | (exact absurd h (by intro z; cases z))
theorem seq_some {x : Dat} (h : x.isSeq = true) : ∃ t vs, x.seq = some (t, vs) := by
  cases x <;> first | exact ⟨_, _, rfl⟩ | (exact absurd h (by intro z; cases z))
theorem fitsB_seq {x : Dat} {t : Bool} {vs : List Dat} {bs : List Int} (h : x.seq = some (t, vs)) : fitsB x bs = fitsL vs bs := by
  cases x <;> first | (cases h; rfl) | (exact absurd h (by intro z; cases z))
theorem tynAll_seq {x : Dat} {t : Bool} {vs : List Dat} (h : x.seq = some (t, vs)) (z : tynAll x) : vs.length ≤ 100000 ∧ ∀ v ∈ vs, v.tyn.isSome = true := by
  cases x <;> first | (cases h; exact z) | (exact absurd h (by intro z; cases z))
theorem ok_is_log (T : Txt mg) (O_is_sequence : Ok P w K mg base 1 "is_sequence" ["value"] (pureR R_is_sequence)) (O_fits_bounds : Ok P w K mg base 3 "fits_bounds" ["value", "bounds"] (pureR R_fits_bounds)) (F : Dfn K mg "is_log" "is_log" s_is_log ["value", "marks"]) : Ok P w K mg base 4 "is_log" ["value", "marks"] (pureR R_is_log) := by
  refine F.ok sc_is_log (by decide) (fun os Pp h => ?_) pureR_noex (fun f cdv A outer s H E hr => ⟨_, (pss_cons (ps_if (PW.pt (pw_or (pt_not (pt_val (pe_fn O_is_sequence ⟨rfl, rfl, rfl, rfl, rfl⟩ (hr.mono (by decide)) rfl (pa_cons (pv 0) pa_nil)))) (pw_or1 (pt_cmpR op_gt (pe_callB (r := rLenQ K) call_len_seq (by rfl) T.b_len (by decide +kernel) (pa_cons (pv 0) pa_nil)) (pe_const T.c_LONGEST rfl) (nomark _))))) (pss_one (ps_ret pe_bl)) pss_nil) (pss_one (ps_ret (pe_fn O_fits_bounds ⟨rfl, rfl, rfl, rfl, rfl⟩ (hr.mono (by decide)) rfl (pa_cons (pv 0) (pa_cons (pe_op op_rep (pe_lst (pa_cons (pv 1) pa_nil)) (pe_callB (r := rLenQ K) call_len_seq (by rfl) T.b_len (by decide +kernel) (pa_cons (pv 0) pa_nil))) pa_nil)))))), fun os Pp h => ?_⟩)
  · obtain ⟨ds, d, rfl, ⟨x, m, rfl, hx, hz, rfl⟩, q⟩ := h
    rfl
  · obtain ⟨ds, d, rfl, ⟨x, m, rfl, hx, hz, rfl⟩, q⟩ := h
    show SvP K E0 _ [some (.d x), some (.d (.int m))] _
    have fin : ∀ (r : Bool) (ρ : Rh), ρ.length = 2 → isLog x m = r → retS (List.map Ow.d [x, .int m]) Pp (.rt (.d (.bl r)) ρ) := fun r ρ hl e => by
      refine ret_rt (pms_d _ _ (by rw [hl]; exact Nat.le_of_ble_eq_true rfl)) ?_
      rw [← e]
      exact q
    walk_at "dls"
    refine ⟨[x], _, rfl, ⟨x, rfl, hx, rfl⟩, ?_⟩
    walk_at "dls"
    · rename_i hb _
      refine fin _ _ rfl ?_
      unfold isLog
      rw [seq_none (by cases h : x.isSeq; rfl; rw [h] at hb; exact nomatch hb)]
    · rename_i hb
      obtain ⟨t, vs, hs⟩ := seq_some (x := x) (by cases h : x.isSeq; rw [h] at hb; exact nomatch hb; rfl)
      obtain ⟨z1, z2⟩ := tynAll_seq hs hz
      walk_at "dls"
      · rename_i hb2
        refine fin _ _ rfl ?_
        unfold isLog
        rw [hs]
        have : ¬ vs.length ≤ 10000 := by
          simp at hb2
          omega
        show (decide (vs.length ≤ 10000) && _) = false
        rw [decide_eq_false this, Bool.false_and]
      · rename_i hb2
        have hb3 : vs.length ≤ 10000 := by
          simp at hb2
          omega
        walk_at "dls"
        refine ev_rep ?_
        refine DL.ev_lst ?_
        walk_at "dls"
        refine ⟨[.int m], rfl, Nat.le_of_ble_eq_true rfl, ?_⟩
        walk_at "dls"
        refine ⟨by omega, by omega, ?_⟩
        walk_at "dls"
        refine ⟨[x, .lst (List.replicate (vs.length : Int).toNat (.int m))], _, rfl, ⟨x, _, false, List.replicate vs.length m, rfl, hx, hz, ?_, rfl⟩, ?_⟩
        · rw [List.map_replicate]
          rfl
        · walk_at "dls"
          refine fin _ _ rfl ?_
          rw [fitsB_seq hs]
          unfold isLog
          rw [hs]
          show (decide (vs.length ≤ 10000) && _) = _
          rw [decide_eq_true hb3, Bool.true_and]

end
end K02

namespace K02
open PySem L2 Evl DL
local macro_rules | `(tactic| walk_at "dl") => `(tactic| first
  | with_reducible refine bnd_ok ?_ | with_reducible refine bndS_ok ?_ | with_reducible refine onE_ok ?_ | with_reducible refine seq_nx ?_ | with_reducible refine seq_rt ?_ | with_reducible refine seq_bk ?_ | with_reducible refine seq_ct ?_ | with_reducible refine onT_rt ?_ | with_reducible refine onT_bk ?_ | with_reducible refine resS_nx ?_ | with_reducible refine resS_rt ?_
  | refine ev_v rfl ?_ | refine ev_l rfl ?_ | with_reducible refine ev_i ?_ | with_reducible refine ev_n ?_ | with_reducible refine ev_b ?_ | with_reducible refine ev_s ?_
  | with_reducible refine ev_oZ0 ?_ | with_reducible refine ev_oB0 ?_ | with_reducible refine ev_oZ ?_ | with_reducible refine ev_neg ?_ | with_reducible refine ev_neI ?_ | with_reducible refine ev_eqI ?_ | with_reducible refine ev_isN ?_ | with_reducible refine ev_notN ?_ | with_reducible refine ev_chain ?_
  | with_reducible refine ev_andV ?_ | with_reducible refine ev_orV ?_ | with_reducible refine ev_notV ?_ | with_reducible refine ev_if ?_
  | with_reducible refine tv_test ?_ | with_reducible refine tv_B ?_ | with_reducible refine tv_and ?_ | with_reducible refine tv_or ?_ | with_reducible refine tv_not ?_ | with_reducible refine tv_yes ?_
  | with_reducible refine ev_isiInt ?_ | with_reducible refine ev_isiBool ?_ | with_reducible refine ev_isiSeq ?_
  | with_reducible refine av_cons ?_ | with_reducible refine av_nil ?_
  | with_reducible refine ev_pure ?_ | with_reducible refine ev_gcd ?_ | with_reducible refine ev_abs ?_ | with_reducible refine ev_int1 ?_
  | (with_reducible refine DL.ev_len ?_; refine av_cons ?_; refine ev_v rfl ?_; refine bnd_ok ?_; refine av_nil ?_; refine ⟨_, _, _, rfl, by first | rfl | assumption, ?_⟩)
  | with_reducible refine ev_fldD ?_ | with_reducible refine ev_ixS ?_
  | with_reducible refine sv_seq ?_ | with_reducible refine sv_next ?_ | with_reducible refine sv_brk ?_ | with_reducible refine sv_cont ?_ | with_reducible refine sv_ret ?_ | with_reducible refine sv_retN ?_ | with_reducible refine sv_if ?_ | with_reducible refine sv_drop ?_
  | with_reducible refine sv_asg ?_
  | refine ⟨_, rfl, fun hb => ?_, fun hb => ?_⟩
  | refine ⟨_, _, rfl, rfl, fun hb => ?_, fun hb => ?_⟩
  | refine ⟨_, _, rfl, rfl, ?_⟩
  | refine ⟨_, _, _, _, rfl, rfl, rfl, ?_⟩
  | refine ⟨_, rfl, ?_⟩ | refine ⟨_, _, rfl, ?_⟩
  | refine And.intro rfl ?_ | refine And.intro (Nat.le_of_ble_eq_true rfl) ?_ | refine And.intro (by assumption) ?_)
local macro_rules | `(tactic| walk_at "dls") => `(tactic| repeat (walk_at "dl"; all_goals try (first | (exact (nomatch ‹false = true›)) | (exact (nomatch ‹true = false›)))))
local macro_rules | `(tactic| walk_at "dla") => `(tactic| repeat' (first | (exact (nomatch ‹false = true›)) | (exact (nomatch ‹true = false›)) | walk_at "dl"))
local macro_rules | `(tactic| walk_at "dlr") => `(tactic| (refine ret_rt (pms_d _ _ (Nat.le_of_ble_eq_true rfl)) ?_))
local macro_rules | `(tactic| walk_at "dlt") => `(tactic| first | walk_at "dl" | with_reducible refine ev_tup2 ?_ | with_reducible refine ev_tup3 ?_)
local macro_rules | `(tactic| walk_at "dlts") => `(tactic| repeat walk_at "dlt")
section
variable {P : Program} {w : World} {K : PySem.W.Frag} [HasTabs K] {mg : Str → Option Value} {base : Heap} {CH CD : Addr}
abbrev s_as_tuples : Stmt := topS 5
abbrev N_as_tuples : List Str := ["rows", "row"]
theorem sc_as_tuples : FnScope N_as_tuples ["rows"] (defScope s_as_tuples) := ⟨rfl, rfl, rfl, by decide +kernel, rfl, by decide +kernel, by decide +kernel⟩
def R_as_tuples : List Dat → Dat → Prop := fun ds d => ∃ (y : Dat) (t : Bool) (rs : List Dat), ds = [y] ∧ y.seq = some (t, rs) ∧ rs.length ≤ 100000 ∧ (∀ r ∈ rs, ∃ tr vs, r.seq = some (tr, vs)) ∧ d = .tup (rs.map tupOf)
theorem ok_as_tuples (T : Txt mg) (F : Dfn K mg "as_tuples" "as_tuples" s_as_tuples ["rows"]) : Ok P w K mg base 1 "as_tuples" ["rows"] (pureR R_as_tuples) := by
  refine F.ok sc_as_tuples (by decide) (fun os Pp h => ?_) pureR_noex (fun f cdv A outer s H E hr => ⟨_, (pss_one (ps_ret (pe_callTy (r := rTupO K) call_tuple_of (by rfl) T.b_tuple (by decide +kernel) (pa_cons (pe_lc (own := [("row", 1)]) (g := gName 1) (tt := tYes) rfl sc_as_tuples.nd (pi_anyK (K := K) rfl (pv 0)) (blkOk_by (own := [("row", 1)]) (N := N_as_tuples) (sc := defScope s_as_tuples) (by decide +kernel)) (fun _ _ _ _ _ => (pg_name (i := 1) sc_as_tuples.nd rfl (.inl rfl))) (fun _ _ _ _ _ => pts_nil) (fun _ _ _ _ _ => (pe_callTy (r := rTupO K) call_tuple_of (by rfl) T.b_tuple (by decide +kernel) (pa_cons (pv 1) pa_nil)))) pa_nil)))), fun os Pp h => ?_⟩)
  · obtain ⟨ds, d, rfl, ⟨y, t, rs, rfl, hy, hl, hz, rfl⟩, q⟩ := h
    rfl
  · obtain ⟨ds, d, rfl, ⟨y, t, rs, rfl, hy, hl, hz, rfl⟩, q⟩ := h
    show SvP K E0 _ [some (.d y), none] _
    walk_at "dls"
    refine DL.ev_tupD ?_
    walk_at "dls"
    refine ev_lcM (ws := [1]) id tupOf (by decide) ?_
    refine iv_any ?_
    walk_at "dls"
    refine ⟨y, t, rs, rfl, hy, rs, (List.map_id _).symm, hl, fun r hr2 => ?_, ?_⟩
    · obtain ⟨tr, vs, hv⟩ := hz r hr2
      refine gv_name (Nat.le_of_ble_eq_true rfl) ⟨rfl, ?_⟩
      refine DL.ev_tupD ?_
      walk_at "dls"
      refine ⟨_, _, _, rfl, hv, ?_⟩
      refine onE_ok ⟨?_, rfl⟩
      unfold tupOf
      rw [hv]
    · walk_at "dls"
      refine ⟨_, _, _, rfl, rfl, ?_⟩
      walk_at "dls"; walk_at "dlr"
      exact q

end
end K02

namespace K02
open PySem L2 Evl DL
local macro_rules | `(tactic| walk_at "dl") => `(tactic| first
  | with_reducible refine bnd_ok ?_ | with_reducible refine bndS_ok ?_ | with_reducible refine onE_ok ?_ | with_reducible refine seq_nx ?_ | with_reducible refine seq_rt ?_ | with_reducible refine seq_bk ?_ | with_reducible refine seq_ct ?_ | with_reducible refine onT_rt ?_ | with_reducible refine onT_bk ?_ | with_reducible refine resS_nx ?_ | with_reducible refine resS_rt ?_
  | refine ev_v rfl ?_ | refine ev_l rfl ?_ | with_reducible refine ev_i ?_ | with_reducible refine ev_n ?_ | with_reducible refine ev_b ?_ | with_reducible refine ev_s ?_
  | with_reducible refine ev_oZ0 ?_ | with_reducible refine ev_oB0 ?_ | with_reducible refine ev_oZ ?_ | with_reducible refine ev_neg ?_ | with_reducible refine ev_neI ?_ | with_reducible refine ev_eqI ?_ | with_reducible refine ev_isN ?_ | with_reducible refine ev_notN ?_ | with_reducible refine ev_chain ?_
  | with_reducible refine ev_andV ?_ | with_reducible refine ev_orV ?_ | with_reducible refine ev_notV ?_ | with_reducible refine ev_if ?_
  | with_reducible refine tv_test ?_ | with_reducible refine tv_B ?_ | with_reducible refine tv_and ?_ | with_reducible refine tv_or ?_ | with_reducible refine tv_not ?_ | with_reducible refine tv_yes ?_
  | with_reducible refine ev_isiInt ?_ | with_reducible refine ev_isiBool ?_ | with_reducible refine ev_isiSeq ?_
  | with_reducible refine av_cons ?_ | with_reducible refine av_nil ?_
  | with_reducible refine ev_pure ?_ | with_reducible refine ev_gcd ?_ | with_reducible refine ev_abs ?_ | with_reducible refine ev_int1 ?_
  | (with_reducible refine DL.ev_len ?_; refine av_cons ?_; refine ev_v rfl ?_; refine bnd_ok ?_; refine av_nil ?_; refine ⟨_, _, _, rfl, by first | rfl | assumption, ?_⟩)
  | with_reducible refine ev_fldD ?_ | with_reducible refine ev_ixS ?_
  | with_reducible refine sv_seq ?_ | with_reducible refine sv_next ?_ | with_reducible refine sv_brk ?_ | with_reducible refine sv_cont ?_ | with_reducible refine sv_ret ?_ | with_reducible refine sv_retN ?_ | with_reducible refine sv_if ?_ | with_reducible refine sv_drop ?_
  | with_reducible refine sv_asg ?_
  | refine ⟨_, rfl, fun hb => ?_, fun hb => ?_⟩
  | refine ⟨_, _, rfl, rfl, fun hb => ?_, fun hb => ?_⟩
  | refine ⟨_, _, rfl, rfl, ?_⟩
  | refine ⟨_, _, _, _, rfl, rfl, rfl, ?_⟩
  | refine ⟨_, rfl, ?_⟩ | refine ⟨_, _, rfl, ?_⟩
  | refine And.intro rfl ?_ | refine And.intro (Nat.le_of_ble_eq_true rfl) ?_ | refine And.intro (by assumption) ?_)
local macro_rules | `(tactic| walk_at "dls") => `(tactic| repeat (walk_at "dl"; all_goals try (first | (exact (nomatch ‹false = true›)) | (exact (nomatch ‹true = false›)))))
local macro_rules | `(tactic| walk_at "dla") => `(tactic| repeat' (first | (exact (nomatch ‹false = true›)) | (exact (nomatch ‹true = false›)) | walk_at "dl"))
local macro_rules | `(tactic| walk_at "dlr") => `(tactic| (refine ret_rt (pms_d _ _ (Nat.le_of_ble_eq_true rfl)) ?_))
local macro_rules | `(tactic| walk_at "dlt") => `(tactic| first | walk_at "dl" | with_reducible refine ev_tup2 ?_ | with_reducible refine ev_tup3 ?_)
local macro_rules | `(tactic| walk_at "dlts") => `(tactic| repeat walk_at "dlt")
section
variable {P : Program} {w : World} {K : PySem.W.Frag} [HasTabs K] {mg : Str → Option Value} {base : Heap} {CH CD : Addr}
abbrev s_check_logs : Stmt := topS 27
abbrev N_check_logs : List Str := ["hands", "value", "hand", "log"]
theorem sc_check_logs : FnScope N_check_logs ["hands", "value"] (defScope s_check_logs) := ⟨rfl, rfl, rfl, by decide +kernel, rfl, by decide +kernel, by decide +kernel⟩
structure LogsOk (ms : List Int) (rs : List Dat) : Prop where
  len : rs.length = ms.length
  row : ∀ (i : Nat) (r : Dat) (m : Int), rs[i]? = some r → ms[i]? = some m → isLog r m = true ∧ r.tyn.isSome = true ∧ tynAll r
def R_check_logs (CH : Addr) : List Dat → Dat → Prop := fun ds d => ∃ (ms : List Int) (y : Dat) (t : Bool) (rs : List Dat), ds = [hObj CH ms, y] ∧ Good ms ∧ y.tyn.isSome = true ∧ y.seq = some (t, rs) ∧ LogsOk ms rs ∧ d = .tup (rs.map tupOf)
theorem isLog_seq {x : Dat} {m : Int} (h : isLog x m = true) : ∃ t vs, x.seq = some (t, vs) := by
  unfold isLog at h
  cases hs : x.seq with
  | none => rw [hs] at h; exact nomatch h
  | some p => exact ⟨p.1, p.2, rfl⟩
theorem ok_check_logs (T : Txt mg) (LH : ClHands K CH) (O_is_sequence : Ok P w K mg base 1 "is_sequence" ["value"] (pureR R_is_sequence)) (O_is_log : Ok P w K mg base 4 "is_log" ["value", "marks"] (pureR R_is_log)) (O_as_tuples : Ok P w K mg base 1 "as_tuples" ["rows"] (pureR R_as_tuples)) (F : Dfn K mg "check_logs" "check_logs" s_check_logs ["hands", "value"]) : Ok P w K mg base 5 "check_logs" ["hands", "value"] (pureR (R_check_logs CH)) := by
  refine F.ok sc_check_logs (by decide) (fun os Pp h => ?_) pureR_noex (fun f cdv A outer s H E hr => ⟨_, (pss_cons (ps_if (PW.pt (pw_or (pt_not (pt_val (pe_fn O_is_sequence ⟨rfl, rfl, rfl, rfl, rfl⟩ (hr.mono (by decide)) rfl (pa_cons (pv 1) pa_nil)))) (pw_or1 (pt_cmpR op_ne (pe_callB (r := rLenQ K) call_len_seq (by rfl) T.b_len (by decide +kernel) (pa_cons (pv 1) pa_nil)) (pe_fldK (K := K) rfl (pv 0) rfl) (nomark _))))) (pss_one ps_never) pss_nil) (pss_cons (ps_for PassesOwn.never rfl (pi_enumK (K := K) rfl (by rfl) T.b_enumerate (pa_cons (pv 1) pa_nil)) (pg_tup rfl (pgs_cons (pg_name (i := 2) sc_check_logs.nd rfl (.inl rfl)) (pgs_cons (pg_name (i := 3) sc_check_logs.nd rfl (.inl rfl)) pgs_nil))) (pss_one (ps_if (pt_not (pt_val (pe_fn O_is_log ⟨rfl, rfl, rfl, rfl, rfl⟩ (hr.mono (by decide)) rfl (pa_cons (pv 3) (pa_cons (pe_ix (r := rIx K) ix_seq (pe_fldK (K := K) rfl (pv 0) rfl) (pv 2) (fun _ _ => rfl)) pa_nil))))) (pss_one ps_never) pss_nil))) (pss_one (ps_ret (pe_fn O_as_tuples ⟨rfl, rfl, rfl, rfl, rfl⟩ (hr.mono (by decide)) rfl (pa_cons (pv 1) pa_nil)))))), fun os Pp h => ?_⟩)
  · obtain ⟨ds, d, rfl, ⟨ms, y, t, rs, rfl, hg, hx, hy, hl, rfl⟩, q⟩ := h
    rfl
  · obtain ⟨ds, d, rfl, ⟨ms, y, t, rs, rfl, hg, hx, hy, hl, rfl⟩, q⟩ := h
    show SvP K E0 _ [some (.d (hObj CH ms)), some (.d y), none, none] _
    have hle : rs.length ≤ 8 := by rw [hl.len]; exact hg.2.1
    walk_at "dls"
    refine ⟨[y], _, rfl, ⟨y, rfl, hx, rfl⟩, ?_⟩
    walk_at "dls"
    · rename_i hb _
      rw [seq_isSeq hy] at hb
      exact nomatch hb
    · walk_at "dls"
      refine ⟨_, _, _, rfl, LH.c, LH.n, rfl, ?_⟩
      walk_at "dls"
      · rename_i hb
        rw [hl.len] at hb
        simp at hb
      · walk_at "dls"
        refine sv_for (ws := [2] ++ ([3] ++ [])) ?_
        refine iv_enum ?_
        walk_at "dls"
        refine ⟨_, _, _, rfl, hy, ?_⟩
        refine loop_inv (fun i ρ' => ∃ u v, ρ' = [some (.d (hObj CH ms)), some (.d y), u, v]) ⟨_, _, rfl⟩ (fun i d ρ' hi he => ?_) (fun ρ' he => ?_)
        · obtain ⟨u, v, rfl⟩ := he
          have hd : ∃ r, rs[i]? = some r ∧ d = .tup [.int (i : Int), r] := by
            cases hm : rs[i]? with
            | none =>
              have : (enumD rs)[i]? = none := by
                rw [List.getElem?_eq_none_iff] at hm ⊢
                rw [enumD_len]
                exact hm
              rw [this] at hi
              cases hi
            | some z =>
              rw [enumD_get hm] at hi
              exact ⟨z, rfl, (Option.some.inj hi).symm⟩
          obtain ⟨r, hr2, rfl⟩ := hd
          have hi2 : i < ms.length := by
            have := (List.getElem?_eq_some_iff.mp hr2).1
            rw [hl.len] at this
            exact this
          obtain ⟨hlog, ht, hz⟩ := hl.row i r ms[i] hr2 (List.getElem?_eq_getElem hi2)
          refine gv_tup rfl (gs_cons (gv_name (Nat.le_of_ble_eq_true rfl) (gs_cons (gv_name (Nat.le_of_ble_eq_true rfl) (gs_nil ?_)))))
          walk_at "dls"
          refine ⟨_, _, _, rfl, LH.c, LH.m, rfl, ?_⟩
          walk_at "dls"
          refine ⟨.tup (ms.map Dat.int), true, ms.map Dat.int, (i : Int), .int ms[i], rfl, rfl, rfl, ?_, ?_⟩
          · exact atD_nat (by rw [List.getElem?_map, List.getElem?_eq_getElem hi2]; rfl)
          · walk_at "dls"
            refine ⟨[r, .int ms[i]], _, rfl, ⟨r, _, rfl, ht, hz, rfl⟩, ?_⟩
            rw [hlog]
            walk_at "dls"
            exact onT_nx (Wk.refl _) ⟨_, _, rfl⟩
        · obtain ⟨u, v, rfl⟩ := he
          walk_at "dls"
          refine ⟨[y], _, rfl, ⟨y, t, rs, rfl, hy, by omega, fun r hr2 => ?_, rfl⟩, ?_⟩
          · obtain ⟨i, hi, rfl⟩ := List.getElem_of_mem hr2
            exact isLog_seq (hl.row i _ (ms[i]'(by rw [← hl.len]; exact hi)) (List.getElem?_eq_getElem hi) (List.getElem?_eq_getElem _)).1
          · walk_at "dls"
            walk_at "dlr"
            exact q

end
end K02

namespace K02
open PySem L2 Evl DL
local macro_rules | `(tactic| walk_at "dl") => `(tactic| first
  | with_reducible refine bnd_ok ?_ | with_reducible refine bndS_ok ?_ | with_reducible refine onE_ok ?_ | with_reducible refine seq_nx ?_ | with_reducible refine seq_rt ?_ | with_reducible refine seq_bk ?_ | with_reducible refine seq_ct ?_ | with_reducible refine onT_rt ?_ | with_reducible refine onT_bk ?_ | with_reducible refine resS_nx ?_ | with_reducible refine resS_rt ?_
  | refine ev_v rfl ?_ | refine ev_l rfl ?_ | with_reducible refine ev_i ?_ | with_reducible refine ev_n ?_ | with_reducible refine ev_b ?_ | with_reducible refine ev_s ?_
  | with_reducible refine ev_oZ0 ?_ | with_reducible refine ev_oB0 ?_ | with_reducible refine ev_oZ ?_ | with_reducible refine ev_neg ?_ | with_reducible refine ev_neI ?_ | with_reducible refine ev_eqI ?_ | with_reducible refine ev_isN ?_ | with_reducible refine ev_notN ?_ | with_reducible refine ev_chain ?_
  | with_reducible refine ev_andV ?_ | with_reducible refine ev_orV ?_ | with_reducible refine ev_notV ?_ | with_reducible refine ev_if ?_
  | with_reducible refine tv_test ?_ | with_reducible refine tv_B ?_ | with_reducible refine tv_and ?_ | with_reducible refine tv_or ?_ | with_reducible refine tv_not ?_ | with_reducible refine tv_yes ?_
  | with_reducible refine ev_isiInt ?_ | with_reducible refine ev_isiBool ?_ | with_reducible refine ev_isiSeq ?_
  | with_reducible refine av_cons ?_ | with_reducible refine av_nil ?_
  | with_reducible refine ev_pure ?_ | with_reducible refine ev_gcd ?_ | with_reducible refine ev_abs ?_ | with_reducible refine ev_int1 ?_
  | (with_reducible refine DL.ev_len ?_; refine av_cons ?_; refine ev_v rfl ?_; refine bnd_ok ?_; refine av_nil ?_; refine ⟨_, _, _, rfl, by first | rfl | assumption, ?_⟩)
  | with_reducible refine ev_fldD ?_ | with_reducible refine ev_ixS ?_
  | with_reducible refine sv_seq ?_ | with_reducible refine sv_next ?_ | with_reducible refine sv_brk ?_ | with_reducible refine sv_cont ?_ | with_reducible refine sv_ret ?_ | with_reducible refine sv_retN ?_ | with_reducible refine sv_if ?_ | with_reducible refine sv_drop ?_
  | with_reducible refine sv_asg ?_
  | refine ⟨_, rfl, fun hb => ?_, fun hb => ?_⟩
  | refine ⟨_, _, rfl, rfl, fun hb => ?_, fun hb => ?_⟩
  | refine ⟨_, _, rfl, rfl, ?_⟩
  | refine ⟨_, _, _, _, rfl, rfl, rfl, ?_⟩
  | refine ⟨_, rfl, ?_⟩ | refine ⟨_, _, rfl, ?_⟩
  | refine And.intro rfl ?_ | refine And.intro (Nat.le_of_ble_eq_true rfl) ?_ | refine And.intro (by assumption) ?_)
local macro_rules | `(tactic| walk_at "dls") => `(tactic| repeat (walk_at "dl"; all_goals try (first | (exact (nomatch ‹false = true›)) | (exact (nomatch ‹true = false›)))))
local macro_rules | `(tactic| walk_at "dla") => `(tactic| repeat' (first | (exact (nomatch ‹false = true›)) | (exact (nomatch ‹true = false›)) | walk_at "dl"))
local macro_rules | `(tactic| walk_at "dlr") => `(tactic| (refine ret_rt (pms_d _ _ (Nat.le_of_ble_eq_true rfl)) ?_))
local macro_rules | `(tactic| walk_at "dlt") => `(tactic| first | walk_at "dl" | with_reducible refine ev_tup2 ?_ | with_reducible refine ev_tup3 ?_)
local macro_rules | `(tactic| walk_at "dlts") => `(tactic| repeat walk_at "dlt")
section
variable {P : Program} {w : World} {K : PySem.W.Frag} [HasTabs K] {mg : Str → Option Value} {base : Heap} {CH CD : Addr}
abbrev s_empty_logs : Stmt := topS 28
abbrev N_empty_logs : List Str := ["hands", "hand"]
theorem sc_empty_logs : FnScope N_empty_logs ["hands"] (defScope s_empty_logs) := ⟨rfl, rfl, rfl, by decide +kernel, rfl, by decide +kernel, by decide +kernel⟩
def emptyRows (n : Nat) (ro : List Ow) : Prop := All2 (fun (_ : Nat) (o : Ow) => ∃ b, o = .l b (([] : List Dat).map Ow.d)) (List.range n) ro
def R_empty_logs (CH : Addr) : Pr := fun os Pp => ∃ ms : List Int, os = [.d (hObj CH ms)] ∧ ms.length ≤ 100000 ∧ ∀ a ro, emptyRows ms.length ro → Pp (.ok (.l a ro)) [.d (hObj CH ms)]
theorem R_empty_logs_noex (os : List Ow) (Pp : Re → List Ow → Prop) (h : R_empty_logs CH os Pp) : R_empty_logs CH os (fun r us => (match r with | .ok _ => True | .ex _ _ => False) ∧ Pp r us) := by
  obtain ⟨ms, h1, h2, q⟩ := h
  exact ⟨ms, h1, h2, fun a ro hr => ⟨trivial, q a ro hr⟩⟩
theorem ok_empty_logs (T : Txt mg) (LH : ClHands K CH) (F : Dfn K mg "empty_logs" "empty_logs" s_empty_logs ["hands"]) : Ok P w K mg base 1 "empty_logs" ["hands"] (R_empty_logs CH) := by
  refine F.ok sc_empty_logs (by decide) (fun os Pp h => ?_) R_empty_logs_noex (fun f cdv A outer s H E hr => ⟨_, (pss_one (ps_ret (pe_lc (own := [("hand", 1)]) (g := gName 1) (tt := tYes) rfl sc_empty_logs.nd (pi_range1 (by rfl) T.b_range (pa_cons (pe_fldK (K := K) rfl (pv 0) rfl) pa_nil)) (blkOk_by (own := [("hand", 1)]) (N := N_empty_logs) (sc := defScope s_empty_logs) (by decide +kernel)) (fun _ _ _ _ _ => (pg_name (i := 1) sc_empty_logs.nd rfl (.inl rfl))) (fun _ _ _ _ _ => pts_nil) (fun _ _ _ _ _ => (pe_lst pa_nil))))), fun os Pp h => ?_⟩)
  · obtain ⟨ms, rfl, hl, q⟩ := h
    rfl
  · obtain ⟨ms, rfl, hl, q⟩ := h
    show SvP K E0 _ [some (.d (hObj CH ms)), none] _
    walk_at "dls"
    refine ev_lcR (ws := [1]) (fun n : Nat => .int (n : Int)) (fun (_ : Nat) (o : Ow) => ∃ b, o = .l b (([] : List Dat).map Ow.d)) (by decide) ?_
    refine iv_rng1 ?_
    walk_at "dls"
    refine ⟨_, _, _, rfl, LH.c, LH.n, rfl, ?_⟩
    walk_at "dls"
    refine ⟨by omega, by omega, ?_⟩
    refine ⟨List.range ms.length, ?_, by rw [List.length_range]; exact hl, fun n hn => ?_, fun rs hr2 b => ?_⟩
    · unfold rangeD
      simp
    · refine gv_name (Nat.le_of_ble_eq_true rfl) ?_
      refine ev_lsto (av_nil ⟨Nat.le_of_ble_eq_true rfl, fun a => ?_⟩)
      exact ⟨⟨a, rfl⟩, rfl⟩
    · walk_at "dls"
      refine ret_rt (.dat .nil) ?_
      exact q b rs hr2

end
end K02

namespace K02
open PySem L2 Evl DL
local macro_rules | `(tactic| walk_at "dl") => `(tactic| first
  | with_reducible refine bnd_ok ?_ | with_reducible refine bndS_ok ?_ | with_reducible refine onE_ok ?_ | with_reducible refine seq_nx ?_ | with_reducible refine seq_rt ?_ | with_reducible refine seq_bk ?_ | with_reducible refine seq_ct ?_ | with_reducible refine onT_rt ?_ | with_reducible refine onT_bk ?_ | with_reducible refine resS_nx ?_ | with_reducible refine resS_rt ?_
  | refine ev_v rfl ?_ | refine ev_l rfl ?_ | with_reducible refine ev_i ?_ | with_reducible refine ev_n ?_ | with_reducible refine ev_b ?_ | with_reducible refine ev_s ?_
  | with_reducible refine ev_oZ0 ?_ | with_reducible refine ev_oB0 ?_ | with_reducible refine ev_oZ ?_ | with_reducible refine ev_neg ?_ | with_reducible refine ev_neI ?_ | with_reducible refine ev_eqI ?_ | with_reducible refine ev_isN ?_ | with_reducible refine ev_notN ?_ | with_reducible refine ev_chain ?_
  | with_reducible refine ev_andV ?_ | with_reducible refine ev_orV ?_ | with_reducible refine ev_notV ?_ | with_reducible refine ev_if ?_
  | with_reducible refine tv_test ?_ | with_reducible refine tv_B ?_ | with_reducible refine tv_and ?_ | with_reducible refine tv_or ?_ | with_reducible refine tv_not ?_ | with_reducible refine tv_yes ?_
  | with_reducible refine ev_isiInt ?_ | with_reducible refine ev_isiBool ?_ | with_reducible refine ev_isiSeq ?_
  | with_reducible refine av_cons ?_ | with_reducible refine av_nil ?_
  | with_reducible refine ev_pure ?_ | with_reducible refine ev_gcd ?_ | with_reducible refine ev_abs ?_ | with_reducible refine ev_int1 ?_
  | (with_reducible refine DL.ev_len ?_; refine av_cons ?_; refine ev_v rfl ?_; refine bnd_ok ?_; refine av_nil ?_; refine ⟨_, _, _, rfl, by first | rfl | assumption, ?_⟩)
  | with_reducible refine ev_fldD ?_ | with_reducible refine ev_ixS ?_
  | with_reducible refine sv_seq ?_ | with_reducible refine sv_next ?_ | with_reducible refine sv_brk ?_ | with_reducible refine sv_cont ?_ | with_reducible refine sv_ret ?_ | with_reducible refine sv_retN ?_ | with_reducible refine sv_if ?_ | with_reducible refine sv_drop ?_
  | with_reducible refine sv_asg ?_
  | refine ⟨_, rfl, fun hb => ?_, fun hb => ?_⟩
  | refine ⟨_, _, rfl, rfl, fun hb => ?_, fun hb => ?_⟩
  | refine ⟨_, _, rfl, rfl, ?_⟩
  | refine ⟨_, _, _, _, rfl, rfl, rfl, ?_⟩
  | refine ⟨_, rfl, ?_⟩ | refine ⟨_, _, rfl, ?_⟩
  | refine And.intro rfl ?_ | refine And.intro (Nat.le_of_ble_eq_true rfl) ?_ | refine And.intro (by assumption) ?_)
local macro_rules | `(tactic| walk_at "dls") => `(tactic| repeat (walk_at "dl"; all_goals try (first | (exact (nomatch ‹false = true›)) | (exact (nomatch ‹true = false›)))))
local macro_rules | `(tactic| walk_at "dla") => `(tactic| repeat' (first | (exact (nomatch ‹false = true›)) | (exact (nomatch ‹true = false›)) | walk_at "dl"))
local macro_rules | `(tactic| walk_at "dlr") => `(tactic| (refine ret_rt (pms_d _ _ (Nat.le_of_ble_eq_true rfl)) ?_))
local macro_rules | `(tactic| walk_at "dlt") => `(tactic| first | walk_at "dl" | with_reducible refine ev_tup2 ?_ | with_reducible refine ev_tup3 ?_)
local macro_rules | `(tactic| walk_at "dlts") => `(tactic| repeat walk_at "dlt")
section
variable {P : Program} {w : World} {K : PySem.W.Frag} [HasTabs K] {mg : Str → Option Value} {base : Heap} {CH CD : Addr}
def rowsD (rows : List (List Int)) : List Dat := rows.map fun r => .tup (r.map Dat.int)
def RowsOw (rows : List (List Int)) (ro : List Ow) : Prop := All2 (fun (r : List Int) (o : Ow) => ∃ b, o = .l b ((r.map Dat.int).map Ow.d)) rows ro
theorem RowsOw.get {rows : List (List Int)} {ro : List Ow} (h : RowsOw rows ro) : ∀ {j : Nat} {r : List Int}, rows[j]? = some r → ∃ b, ro[j]? = some (.l b ((r.map Dat.int).map Ow.d)) := by
  unfold RowsOw at h
  induction h with
  | nil => intro j r e; simp at e
  | cons q t ih =>
    intro j r e
    cases j with
    | zero => simp at e; subst e; obtain ⟨b, hb⟩ := q; exact ⟨b, by rw [hb]; rfl⟩
    | succ j => exact ih (by simpa using e)
theorem RowsOw.set {rows : List (List Int)} {ro : List Ow} (h : RowsOw rows ro) (r : List Int) (b : Addr) : ∀ (j : Nat), RowsOw (rows.set j r) (ro.set j (.l b ((r.map Dat.int).map Ow.d))) := by
  unfold RowsOw at h ⊢
  induction h with
  | nil => intro j; exact .nil
  | cons q t ih =>
    intro j
    cases j with
    | zero => exact .cons ⟨b, rfl⟩ t
    | succ j => exact .cons q (ih j)
theorem RowsOw.len {rows : List (List Int)} {ro : List Ow} (h : RowsOw rows ro) : rows.length = ro.length := by
  unfold RowsOw at h
  induction h with
  | nil => rfl
  | cons _ _ ih => simp [ih]
theorem RowsOw.okR {rows : List (List Int)} {ro : List Ow} (h : RowsOw rows ro) : okRs ro = true ∧ dats ro = rows.map fun r => Dat.lst (r.map Dat.int) := by
  unfold RowsOw at h
  induction h with
  | nil => exact ⟨rfl, rfl⟩
  | cons q t ih =>
    obtain ⟨b, rfl⟩ := q
    refine ⟨?_, ?_⟩
    · show ((okRs _) && okRs _) = true
      rw [okRs_map, ih.1]
      rfl
    · show Dat.lst (dats _) :: dats _ = _
      rw [dats_map, ih.2]
      rfl
theorem RowsOw.ofEmpty {n : Nat} {ro : List Ow} (h : emptyRows n ro) : RowsOw (List.replicate n []) ro := by
  have key : ∀ {l : List Nat} {ro : List Ow}, All2 (fun (_ : Nat) (o : Ow) => ∃ b, o = .l b (([] : List Dat).map Ow.d)) l ro → RowsOw (List.replicate l.length []) ro := by
    intro l ro h
    induction h with
    | nil => exact .nil
    | cons q t ih => exact .cons q ih
  have := key h
  rw [List.length_range] at this
  exact this

end
end K02

namespace K02
open PySem L2 Evl DL
local macro_rules | `(tactic| walk_at "dl") => `(tactic| first
  | with_reducible refine bnd_ok ?_ | with_reducible refine bndS_ok ?_ | with_reducible refine onE_ok ?_ | with_reducible refine seq_nx ?_ | with_reducible refine seq_rt ?_ | with_reducible refine seq_bk ?_ | with_reducible refine seq_ct ?_ | with_reducible refine onT_rt ?_ | with_reducible refine onT_bk ?_ | with_reducible refine resS_nx ?_ | with_reducible refine resS_rt ?_
  | refine ev_v rfl ?_ | refine ev_l rfl ?_ | with_reducible refine ev_i ?_ | with_reducible refine ev_n ?_ | with_reducible refine ev_b ?_ | with_reducible refine ev_s ?_
  | with_reducible refine ev_oZ0 ?_ | with_reducible refine ev_oB0 ?_ | with_reducible refine ev_oZ ?_ | with_reducible refine ev_neg ?_ | with_reducible refine ev_neI ?_ | with_reducible refine ev_eqI ?_ | with_reducible refine ev_isN ?_ | with_reducible refine ev_notN ?_ | with_reducible refine ev_chain ?_
  | with_reducible refine ev_andV ?_ | with_reducible refine ev_orV ?_ | with_reducible refine ev_notV ?_ | with_reducible refine ev_if ?_
  | with_reducible refine tv_test ?_ | with_reducible refine tv_B ?_ | with_reducible refine tv_and ?_ | with_reducible refine tv_or ?_ | with_reducible refine tv_not ?_ | with_reducible refine tv_yes ?_
  | with_reducible refine ev_isiInt ?_ | with_reducible refine ev_isiBool ?_ | with_reducible refine ev_isiSeq ?_
  | with_reducible refine av_cons ?_ | with_reducible refine av_nil ?_
  | with_reducible refine ev_pure ?_ | with_reducible refine ev_gcd ?_ | with_reducible refine ev_abs ?_ | with_reducible refine ev_int1 ?_
  | (with_reducible refine DL.ev_len ?_; refine av_cons ?_; refine ev_v rfl ?_; refine bnd_ok ?_; refine av_nil ?_; refine ⟨_, _, _, rfl, by first | rfl | assumption, ?_⟩)
  | with_reducible refine ev_fldD ?_ | with_reducible refine ev_ixS ?_
  | with_reducible refine sv_seq ?_ | with_reducible refine sv_next ?_ | with_reducible refine sv_brk ?_ | with_reducible refine sv_cont ?_ | with_reducible refine sv_ret ?_ | with_reducible refine sv_retN ?_ | with_reducible refine sv_if ?_ | with_reducible refine sv_drop ?_
  | with_reducible refine sv_asg ?_
  | refine ⟨_, rfl, fun hb => ?_, fun hb => ?_⟩
  | refine ⟨_, _, rfl, rfl, fun hb => ?_, fun hb => ?_⟩
  | refine ⟨_, _, rfl, rfl, ?_⟩
  | refine ⟨_, _, _, _, rfl, rfl, rfl, ?_⟩
  | refine ⟨_, rfl, ?_⟩ | refine ⟨_, _, rfl, ?_⟩
  | refine And.intro rfl ?_ | refine And.intro (Nat.le_of_ble_eq_true rfl) ?_ | refine And.intro (by assumption) ?_)
local macro_rules | `(tactic| walk_at "dls") => `(tactic| repeat (walk_at "dl"; all_goals try (first | (exact (nomatch ‹false = true›)) | (exact (nomatch ‹true = false›)))))
local macro_rules | `(tactic| walk_at "dla") => `(tactic| repeat' (first | (exact (nomatch ‹false = true›)) | (exact (nomatch ‹true = false›)) | walk_at "dl"))
local macro_rules | `(tactic| walk_at "dlr") => `(tactic| (refine ret_rt (pms_d _ _ (Nat.le_of_ble_eq_true rfl)) ?_))
local macro_rules | `(tactic| walk_at "dlt") => `(tactic| first | walk_at "dl" | with_reducible refine ev_tup2 ?_ | with_reducible refine ev_tup3 ?_)
local macro_rules | `(tactic| walk_at "dlts") => `(tactic| repeat walk_at "dlt")
section
variable {P : Program} {w : World} {K : PySem.W.Frag} [HasTabs K] {mg : Str → Option Value} {base : Heap} {CH CD : Addr}
/-- the marks of one hand along a story with its marks -/
def rowOf (ps : List (Nat × Int)) (h : Nat) : List Int := (ps.filter fun p => decide (p.1 = h)).map Prod.snd
def rowsP (n : Nat) (ps : List (Nat × Int)) : List (List Int) := (List.range n).map (rowOf ps)
theorem rowOf_snoc (ps : List (Nat × Int)) (h : Nat) (k : Int) (j : Nat) : rowOf (ps ++ [(h, k)]) j = if h = j then rowOf ps j ++ [k] else rowOf ps j := by
  unfold rowOf
  rw [List.filter_append, List.map_append]
  by_cases e : h = j
  · rw [if_pos e, List.filter_cons_of_pos (by simpa using e)]; rfl
  · rw [if_neg e, List.filter_cons_of_neg (by simpa using e)]; simp
theorem rowsP_len (n : Nat) (ps : List (Nat × Int)) : (rowsP n ps).length = n := by unfold rowsP; simp
theorem rowsP_get {n h : Nat} (ps : List (Nat × Int)) (hh : h < n) : (rowsP n ps)[h]? = some (rowOf ps h) := by
  unfold rowsP
  rw [List.getElem?_map, List.getElem?_range hh]
  rfl
theorem rowsP_nil (n : Nat) : rowsP n [] = List.replicate n [] := by
  refine List.ext_getElem? fun j => ?_
  by_cases z : j < n
  · rw [rowsP_get [] z, List.getElem?_replicate, if_pos z]; rfl
  · rw [List.getElem?_eq_none (by rw [rowsP_len]; omega), List.getElem?_eq_none (by rw [List.length_replicate]; omega)]
theorem rowsP_snoc {n h : Nat} (ps : List (Nat × Int)) (k : Int) (hh : h < n) : rowsP n (ps ++ [(h, k)]) = (rowsP n ps).set h (rowOf ps h ++ [k]) := by
  refine List.ext_getElem? fun j => ?_
  by_cases z : j < n
  · rw [rowsP_get _ z, rowOf_snoc]
    by_cases e : h = j
    · subst e
      rw [if_pos rfl, List.getElem?_set_self (by rw [rowsP_len]; exact hh)]
    · rw [if_neg e, List.getElem?_set_ne e, rowsP_get _ z]
  · rw [List.getElem?_eq_none (by rw [rowsP_len]; omega), List.getElem?_eq_none (by rw [List.length_set, rowsP_len]; omega)]
theorem rowOf_len (ps : List (Nat × Int)) (h : Nat) : (rowOf ps h).length = (ps.map Prod.fst).count h := by
  induction ps with
  | nil => rfl
  | cons p ps ih =>
    unfold rowOf at ih ⊢
    rw [List.map_cons, List.count_cons, ← ih]
    by_cases e : p.1 = h
    · rw [List.filter_cons_of_pos (by simpa using e)]; simp [e]
    · rw [List.filter_cons_of_neg (by simpa using e)]; simp [e]
theorem rowOf_mem {ps : List (Nat × Int)} {h : Nat} {k : Int} (m : k ∈ rowOf ps h) : (h, k) ∈ ps := by
  unfold rowOf at m
  obtain ⟨p, hp, e⟩ := List.mem_map.mp m
  obtain ⟨h1, h2⟩ := List.mem_filter.mp hp
  have h2 := of_decide_eq_true h2
  obtain ⟨a, b⟩ := p
  cases e; cases h2
  exact h1
/-- how often each acts -/
def cntP (n : Nat) (hs : List Nat) : List Int := (List.range n).map fun h => ((hs.count h : Nat) : Int)
theorem cntP_len (n : Nat) (hs : List Nat) : (cntP n hs).length = n := by unfold cntP; simp
theorem cntP_get {n h : Nat} (hs : List Nat) (hh : h < n) : (cntP n hs)[h]? = some ((hs.count h : Nat) : Int) := by
  unfold cntP
  rw [List.getElem?_map, List.getElem?_range hh]
  rfl
theorem cntP_nil (n : Nat) : cntP n [] = List.replicate n 0 := by
  refine List.ext_getElem? fun j => ?_
  by_cases z : j < n
  · rw [cntP_get [] z, List.getElem?_replicate, if_pos z]; rfl
  · rw [List.getElem?_eq_none (by rw [cntP_len]; omega), List.getElem?_eq_none (by rw [List.length_replicate]; omega)]
theorem cntP_snoc {n h : Nat} (hs : List Nat) (hh : h < n) : cntP n (hs ++ [h]) = (cntP n hs).set h (((hs.count h : Nat) : Int) + 1) := by
  refine List.ext_getElem? fun j => ?_
  by_cases z : j < n
  · rw [cntP_get _ z, List.count_append]
    by_cases e : h = j
    · subst e
      rw [List.getElem?_set_self (by rw [cntP_len]; exact hh)]
      simp
    · rw [List.getElem?_set_ne e, cntP_get _ z]
      simp [e]
  · rw [List.getElem?_eq_none (by rw [cntP_len]; omega), List.getElem?_eq_none (by rw [List.length_set, cntP_len]; omega)]
/-- the mark of a deed, by the rows -/
def mkAt (rows : List (List Int)) (hs : List Nat) (u : Nat) : Int := (rows.getD (hs.getD u 0) []).getD ((hs.take u).count (hs.getD u 0)) 0
def marksM (rows : List (List Int)) (hs : List Nat) : List Int := (List.range hs.length).map (mkAt rows hs)
theorem marksM_len (rows : List (List Int)) (hs : List Nat) : (marksM rows hs).length = hs.length := by unfold marksM; simp
theorem marksM_get (rows : List (List Int)) {hs : List Nat} {u : Nat} (hu : u < hs.length) : (marksM rows hs)[u]? = some (mkAt rows hs u) := by
  unfold marksM
  rw [List.getElem?_map, List.getElem?_range hu]
  rfl
theorem count_take_lt {hs : List Nat} {u : Nat} (hu : u < hs.length) : (hs.take u).count hs[u] < hs.count hs[u] := by
  have e : hs.take u ++ (hs[u] :: hs.drop (u + 1)) = hs := by rw [← List.drop_eq_getElem_cons hu, List.take_append_drop]
  generalize hs[u] = x at e
  have : hs.count x = (hs.take u ++ (x :: hs.drop (u + 1))).count x := congrArg (List.count x) e.symm
  rw [List.count_append, List.count_cons_self] at this
  omega
theorem getD_at {α : Type} {xs : List α} {i : Nat} {d : α} (h : i < xs.length) : xs.getD i d = xs[i] := by
  rw [List.getD_eq_getElem?_getD, List.getElem?_eq_getElem h]; rfl
/-- the rows of a story with its marks tell the marks -/
theorem marks_back {n : Nat} {ps : List (Nat × Int)} (hb : ∀ p ∈ ps, p.1 < n) : marksM (rowsP n ps) (ps.map Prod.fst) = ps.map Prod.snd := by
  refine List.ext_getElem? fun u => ?_
  by_cases z : u < ps.length
  · rw [marksM_get _ (by rw [List.length_map]; exact z), List.getElem?_map, List.getElem?_eq_getElem z]
    have hh : (ps.map Prod.fst).getD u 0 = ps[u].1 := by rw [getD_at (by rw [List.length_map]; exact z), List.getElem_map]
    show some (mkAt _ _ u) = some ps[u].2
    unfold mkAt
    have hbp := hb _ (List.getElem_mem z)
    have e : ps.take u ++ (ps[u] :: ps.drop (u + 1)) = ps := by rw [← List.drop_eq_getElem_cons z, List.take_append_drop]
    rw [hh, List.getD_eq_getElem?_getD (l := rowsP n ps)]
    generalize ps[u] = x at hbp e
    rw [rowsP_get ps hbp]
    show some ((rowOf ps x.1).getD _ 0) = _
    have er : rowOf ps x.1 = rowOf (ps.take u) x.1 ++ (x.2 :: rowOf (ps.drop (u + 1)) x.1) := by
      have : rowOf ps x.1 = rowOf (ps.take u ++ (x :: ps.drop (u + 1))) x.1 := congrArg (fun l => rowOf l x.1) e.symm
      rw [this]
      unfold rowOf
      rw [List.filter_append, List.map_append, List.filter_cons_of_pos (by simp), List.map_cons]
    have el : ((ps.map Prod.fst).take u).count x.1 = (rowOf (ps.take u) x.1).length := by rw [rowOf_len, List.map_take]
    rw [er, el, List.getD_eq_getElem?_getD, List.getElem?_append_right (Nat.le_refl _), Nat.sub_self]
    rfl
  · rw [List.getElem?_eq_none (by rw [marksM_len, List.length_map]; omega), List.getElem?_eq_none (by rw [List.length_map]; omega)]
theorem zip_take_succ {hs : List Nat} {ms : List Int} {t : Nat} (h1 : t < hs.length) (h2 : t < ms.length) : (hs.zip ms).take (t + 1) = (hs.zip ms).take t ++ [(hs[t], ms[t])] := by
  rw [List.take_add_one, List.getElem?_eq_getElem (by rw [List.length_zip]; omega), List.getElem_zip]
  rfl
/-- .. and a story that acts as often is told marks that leave these rows -/
theorem rows_back {n : Nat} {rows : List (List Int)} {hs : List Nat} (hl : rows.length = n) (hb : ∀ h ∈ hs, h < n) (hc : ∀ h r, rows[h]? = some r → hs.count h = r.length) : rowsP n (hs.zip (marksM rows hs)) = rows := by
  have key : ∀ t, t ≤ hs.length → ∀ h r, rows[h]? = some r → rowOf ((hs.zip (marksM rows hs)).take t) h = r.take ((hs.take t).count h) := by
    intro t
    induction t with
    | zero => intro _ h r _; simp [rowOf]
    | succ t ih =>
      intro ht h r hr
      have htl : t < hs.length := by omega
      rw [zip_take_succ htl (by rw [marksM_len]; exact htl), rowOf_snoc, ih (by omega) h r hr]
      have et : hs.take (t + 1) = hs.take t ++ [hs[t]] := by rw [List.take_add_one, List.getElem?_eq_getElem htl]; rfl
      have em : (marksM rows hs)[t]'(by rw [marksM_len]; exact htl) = mkAt rows hs t := by
        have := marksM_get rows htl
        rw [List.getElem?_eq_getElem (by rw [marksM_len]; exact htl)] at this
        exact Option.some.inj this
      rw [em, et, List.count_append]
      by_cases e : hs[t] = h
      · subst e
        have hlt := count_take_lt htl
        rw [hc _ r hr] at hlt
        rw [if_pos rfl]
        have e1 : mkAt rows hs t = r[(hs.take t).count hs[t]] := by
          unfold mkAt
          rw [getD_at htl, List.getD_eq_getElem?_getD (l := rows), hr]
          exact getD_at hlt
        rw [e1, show List.count hs[t] [hs[t]] = 1 by simp, List.take_add_one, List.getElem?_eq_getElem hlt]
        rfl
      · rw [if_neg e, show List.count h [hs[t]] = 0 by simp [e], Nat.add_zero]
  refine List.ext_getElem? fun h => ?_
  by_cases z : h < n
  · have hr := List.getElem?_eq_getElem (l := rows) (i := h) (by omega)
    rw [rowsP_get _ z, hr]
    have := key hs.length (Nat.le_refl _) h _ hr
    rw [List.take_of_length_le (by rw [List.length_zip, marksM_len]; omega), List.take_length, hc h _ hr, List.take_length] at this
    rw [this]
  · rw [List.getElem?_eq_none (by rw [rowsP_len]; omega), List.getElem?_eq_none (by omega)]
theorem erase_map {α β : Type} (f : α → β) : ∀ (l : List α) (j : Nat), (l.map f).eraseIdx j = (l.eraseIdx j).map f
  | [], _ => rfl
  | _ :: _, 0 => rfl
  | x :: l, j + 1 => congrArg (List.cons (f x)) (erase_map f l j)
theorem erase_perm {α : Type} : ∀ (l : List α) (j : Nat) (h : j < l.length), (l[j] :: l.eraseIdx j).Perm l
  | [], _, h => absurd h (by simp)
  | x :: l, 0, _ => .refl _
  | x :: l, j + 1, h => (List.Perm.swap _ _ _).trans ((erase_perm l j (by simpa using h)).cons x)

end
end K02

namespace K02
open PySem L2 Evl DL
local macro_rules | `(tactic| walk_at "dl") => `(tactic| first
  | with_reducible refine bnd_ok ?_ | with_reducible refine bndS_ok ?_ | with_reducible refine onE_ok ?_ | with_reducible refine seq_nx ?_ | with_reducible refine seq_rt ?_ | with_reducible refine seq_bk ?_ | with_reducible refine seq_ct ?_ | with_reducible refine onT_rt ?_ | with_reducible refine onT_bk ?_ | with_reducible refine resS_nx ?_ | with_reducible refine resS_rt ?_
  | refine ev_v rfl ?_ | refine ev_l rfl ?_ | with_reducible refine ev_i ?_ | with_reducible refine ev_n ?_ | with_reducible refine ev_b ?_ | with_reducible refine ev_s ?_
  | with_reducible refine ev_oZ0 ?_ | with_reducible refine ev_oB0 ?_ | with_reducible refine ev_oZ ?_ | with_reducible refine ev_neg ?_ | with_reducible refine ev_neI ?_ | with_reducible refine ev_eqI ?_ | with_reducible refine ev_isN ?_ | with_reducible refine ev_notN ?_ | with_reducible refine ev_chain ?_
  | with_reducible refine ev_andV ?_ | with_reducible refine ev_orV ?_ | with_reducible refine ev_notV ?_ | with_reducible refine ev_if ?_
  | with_reducible refine tv_test ?_ | with_reducible refine tv_B ?_ | with_reducible refine tv_and ?_ | with_reducible refine tv_or ?_ | with_reducible refine tv_not ?_ | with_reducible refine tv_yes ?_
  | with_reducible refine ev_isiInt ?_ | with_reducible refine ev_isiBool ?_ | with_reducible refine ev_isiSeq ?_
  | with_reducible refine av_cons ?_ | with_reducible refine av_nil ?_
  | with_reducible refine ev_pure ?_ | with_reducible refine ev_gcd ?_ | with_reducible refine ev_abs ?_ | with_reducible refine ev_int1 ?_
  | (with_reducible refine DL.ev_len ?_; refine av_cons ?_; refine ev_v rfl ?_; refine bnd_ok ?_; refine av_nil ?_; refine ⟨_, _, _, rfl, by first | rfl | assumption, ?_⟩)
  | with_reducible refine ev_fldD ?_ | with_reducible refine ev_ixS ?_
  | with_reducible refine sv_seq ?_ | with_reducible refine sv_next ?_ | with_reducible refine sv_brk ?_ | with_reducible refine sv_cont ?_ | with_reducible refine sv_ret ?_ | with_reducible refine sv_retN ?_ | with_reducible refine sv_if ?_ | with_reducible refine sv_drop ?_
  | with_reducible refine sv_asg ?_
  | refine ⟨_, rfl, fun hb => ?_, fun hb => ?_⟩
  | refine ⟨_, _, rfl, rfl, fun hb => ?_, fun hb => ?_⟩
  | refine ⟨_, _, rfl, rfl, ?_⟩
  | refine ⟨_, _, _, _, rfl, rfl, rfl, ?_⟩
  | refine ⟨_, rfl, ?_⟩ | refine ⟨_, _, rfl, ?_⟩
  | refine And.intro rfl ?_ | refine And.intro (Nat.le_of_ble_eq_true rfl) ?_ | refine And.intro (by assumption) ?_)
local macro_rules | `(tactic| walk_at "dls") => `(tactic| repeat (walk_at "dl"; all_goals try (first | (exact (nomatch ‹false = true›)) | (exact (nomatch ‹true = false›)))))
local macro_rules | `(tactic| walk_at "dla") => `(tactic| repeat' (first | (exact (nomatch ‹false = true›)) | (exact (nomatch ‹true = false›)) | walk_at "dl"))
local macro_rules | `(tactic| walk_at "dlr") => `(tactic| (refine ret_rt (pms_d _ _ (Nat.le_of_ble_eq_true rfl)) ?_))
local macro_rules | `(tactic| walk_at "dlt") => `(tactic| first | walk_at "dl" | with_reducible refine ev_tup2 ?_ | with_reducible refine ev_tup3 ?_)
local macro_rules | `(tactic| walk_at "dlts") => `(tactic| repeat walk_at "dlt")
section
variable {P : Program} {w : World} {K : PySem.W.Frag} [HasTabs K] {mg : Str → Option Value} {base : Heap} {CH CD : Addr}
abbrev s_last_marks : Stmt := topS 29
abbrev N_last_marks : List Str := ["hands", "logs", "log"]
theorem sc_last_marks : FnScope N_last_marks ["hands", "logs"] (defScope s_last_marks) := ⟨rfl, rfl, rfl, by decide +kernel, rfl, by decide +kernel, by decide +kernel⟩
def lastD (r : List Int) : Int := r.getLastD 0
theorem at_last {ds : List Dat} {d : Dat} : atI (ds ++ [d]) (-1) = some d := by
  have e : ixN (ds ++ [d]).length (-1) = some ds.length := by
    unfold ixN
    rw [if_neg (by decide), if_pos (by rw [List.length_append]; show -((ds.length + 1 : Nat) : Int) ≤ -1; omega)]
    rw [List.length_append]
    show some ((-1 : Int) + ((ds.length + 1 : Nat) : Int)).toNat = some ds.length
    congr 1
    omega
  unfold atI
  rw [e]
  simp
def R_last_marks (CH : Addr) : List Dat → Dat → Prop := fun ds d => ∃ (ms : List Int) (y : Dat) (t : Bool) (rs : List Dat) (rows : List (List Int)), ds = [hObj CH ms, y] ∧ Good ms ∧ y.tyn.isSome = true ∧ y.seq = some (t, rs) ∧ LogsOk ms rs ∧ rs.map tupOf = rowsD rows ∧ d = .tup ((rows.map lastD).map Dat.int)
theorem ok_last_marks (T : Txt mg) (LH : ClHands K CH) (O_check_logs : Ok P w K mg base 5 "check_logs" ["hands", "value"] (pureR (R_check_logs CH))) (F : Dfn K mg "last_marks" "last_marks" s_last_marks ["hands", "logs"]) : Ok P w K mg base 6 "last_marks" ["hands", "logs"] (pureR (R_last_marks CH)) := by
  refine F.ok sc_last_marks (by decide) (fun os Pp h => ?_) pureR_noex (fun f cdv A outer s H E hr => ⟨_, (pss_one (ps_ret (pe_callTy (r := rTupO K) call_tuple_of (by rfl) T.b_tuple (by decide +kernel) (pa_cons (pe_lc (own := [("log", 2)]) (g := gName 2) (tt := tYes) rfl sc_last_marks.nd (pi_anyK (K := K) rfl (pe_fn O_check_logs ⟨rfl, rfl, rfl, rfl, rfl⟩ (hr.mono (by decide)) rfl (pa_cons (pv 0) (pa_cons (pv 1) pa_nil)))) (blkOk_by (own := [("log", 2)]) (N := N_last_marks) (sc := defScope s_last_marks) (by decide +kernel)) (fun _ _ _ _ _ => (pg_name (i := 2) sc_last_marks.nd rfl (.inl rfl))) (fun _ _ _ _ _ => pts_nil) (fun _ _ _ _ _ => (pe_ifExp (pt_truK (K := K) rfl (pv 2) (fun _ => rfl)) (pe_ix (r := rIx K) ix_seq (pv 2) (pe_un un_neg pe_int) (fun _ _ => rfl)) pe_int))) pa_nil)))), fun os Pp h => ?_⟩)
  · obtain ⟨ds, d, rfl, ⟨ms, y, t, rs, rows, rfl, hg, hx, hy, hL, hrw, rfl⟩, q⟩ := h
    rfl
  · obtain ⟨ds, d, rfl, ⟨ms, y, t, rs, rows, rfl, hg, hx, hy, hL, hrw, rfl⟩, q⟩ := h
    have hl : rows.length ≤ 8 := by
      have e : rows.length = rs.length := by
        have := congrArg List.length hrw
        rw [List.length_map, rowsD, List.length_map] at this
        omega
      rw [e, hL.len]
      exact hg.2.1
    show SvP K E0 _ [some (.d (hObj CH ms)), some (.d y), none] _
    refine sv_ret ?_
    refine DL.ev_tupD (av_cons ?_)
    refine ev_lcM (ws := [2]) (fun r : List Int => .tup (r.map Dat.int)) (fun r : List Int => .int (lastD r)) (by decide) ?_
    refine iv_any ?_
    walk_at "dls"
    refine ⟨[hObj CH ms, y], _, rfl, ⟨ms, y, t, rs, rfl, hg, hx, hy, hL, rfl⟩, ?_⟩
    rw [hrw]
    refine bnd_ok ⟨_, _, _, rfl, rfl, rows, rfl, by omega, fun r hr2 => ?_, ?_⟩
    · refine gv_name (Nat.le_of_ble_eq_true rfl) ⟨rfl, ?_⟩
      refine ev_if ?_
      refine tv_truD (ev_v rfl (bnd_ok ⟨_, _, _, rfl, rfl, ?_⟩))
      rcases List.eq_nil_or_concat r with e | ⟨r0, k, e⟩
      · subst e
        refine bnd_ok ⟨_, rfl, fun hb => absurd hb (by simp), fun _ => ?_⟩
        exact ev_i (onE_ok ⟨rfl, rfl⟩)
      · rw [List.concat_eq_append] at e
        subst e
        refine bnd_ok ⟨_, rfl, fun _ => ?_, fun hb => absurd hb (by simp)⟩
        refine ev_ixS (ev_v rfl (bnd_ok ?_))
        walk_at "dls"
        refine ⟨_, _, _, _, .int k, rfl, rfl, rfl, by rw [List.map_append]; exact at_last, ?_⟩
        refine onE_ok ⟨?_, rfl⟩
        unfold lastD
        simp
    · refine bnd_ok (av_nil ⟨_, _, _, rfl, rfl, ?_⟩)
      refine bndS_ok (ret_rt (pms_d [hObj CH ms, y] _ (Nat.le_of_ble_eq_true rfl)) ?_)
      rw [List.map_map] at q
      exact q

end
end K02

namespace K02
open PySem L2 Evl DL
local macro_rules | `(tactic| walk_at "dl") => `(tactic| first
  | with_reducible refine bnd_ok ?_ | with_reducible refine bndS_ok ?_ | with_reducible refine onE_ok ?_ | with_reducible refine seq_nx ?_ | with_reducible refine seq_rt ?_ | with_reducible refine seq_bk ?_ | with_reducible refine seq_ct ?_ | with_reducible refine onT_rt ?_ | with_reducible refine onT_bk ?_ | with_reducible refine resS_nx ?_ | with_reducible refine resS_rt ?_
  | refine ev_v rfl ?_ | refine ev_l rfl ?_ | with_reducible refine ev_i ?_ | with_reducible refine ev_n ?_ | with_reducible refine ev_b ?_ | with_reducible refine ev_s ?_
  | with_reducible refine ev_oZ0 ?_ | with_reducible refine ev_oB0 ?_ | with_reducible refine ev_oZ ?_ | with_reducible refine ev_neg ?_ | with_reducible refine ev_neI ?_ | with_reducible refine ev_eqI ?_ | with_reducible refine ev_isN ?_ | with_reducible refine ev_notN ?_ | with_reducible refine ev_chain ?_
  | with_reducible refine ev_andV ?_ | with_reducible refine ev_orV ?_ | with_reducible refine ev_notV ?_ | with_reducible refine ev_if ?_
  | with_reducible refine tv_test ?_ | with_reducible refine tv_B ?_ | with_reducible refine tv_and ?_ | with_reducible refine tv_or ?_ | with_reducible refine tv_not ?_ | with_reducible refine tv_yes ?_
  | with_reducible refine ev_isiInt ?_ | with_reducible refine ev_isiBool ?_ | with_reducible refine ev_isiSeq ?_
  | with_reducible refine av_cons ?_ | with_reducible refine av_nil ?_
  | with_reducible refine ev_pure ?_ | with_reducible refine ev_gcd ?_ | with_reducible refine ev_abs ?_ | with_reducible refine ev_int1 ?_
  | (with_reducible refine DL.ev_len ?_; refine av_cons ?_; refine ev_v rfl ?_; refine bnd_ok ?_; refine av_nil ?_; refine ⟨_, _, _, rfl, by first | rfl | assumption, ?_⟩)
  | with_reducible refine ev_fldD ?_ | with_reducible refine ev_ixS ?_
  | with_reducible refine sv_seq ?_ | with_reducible refine sv_next ?_ | with_reducible refine sv_brk ?_ | with_reducible refine sv_cont ?_ | with_reducible refine sv_ret ?_ | with_reducible refine sv_retN ?_ | with_reducible refine sv_if ?_ | with_reducible refine sv_drop ?_
  | with_reducible refine sv_asg ?_
  | refine ⟨_, rfl, fun hb => ?_, fun hb => ?_⟩
  | refine ⟨_, _, rfl, rfl, fun hb => ?_, fun hb => ?_⟩
  | refine ⟨_, _, rfl, rfl, ?_⟩
  | refine ⟨_, _, _, _, rfl, rfl, rfl, ?_⟩
  | refine ⟨_, rfl, ?_⟩ | refine ⟨_, _, rfl, ?_⟩
  | refine And.intro rfl ?_ | refine And.intro (Nat.le_of_ble_eq_true rfl) ?_ | refine And.intro (by assumption) ?_)
local macro_rules | `(tactic| walk_at "dls") => `(tactic| repeat (walk_at "dl"; all_goals try (first | (exact (nomatch ‹false = true›)) | (exact (nomatch ‹true = false›)))))
local macro_rules | `(tactic| walk_at "dla") => `(tactic| repeat' (first | (exact (nomatch ‹false = true›)) | (exact (nomatch ‹true = false›)) | walk_at "dl"))
local macro_rules | `(tactic| walk_at "dlr") => `(tactic| (refine ret_rt (pms_d _ _ (Nat.le_of_ble_eq_true rfl)) ?_))
local macro_rules | `(tactic| walk_at "dlt") => `(tactic| first | walk_at "dl" | with_reducible refine ev_tup2 ?_ | with_reducible refine ev_tup3 ?_)
local macro_rules | `(tactic| walk_at "dlts") => `(tactic| repeat walk_at "dlt")
section
variable {P : Program} {w : World} {K : PySem.W.Frag} [HasTabs K] {mg : Str → Option Value} {base : Heap} {CH CD : Addr}
abbrev s__law_box : Stmt := topS 35
abbrev N__law_box : List Str := ["script", "k", "cell"]
theorem sc__law_box : FnScope N__law_box ["script", "k"] (defScope s__law_box) := ⟨rfl, rfl, rfl, by decide +kernel, rfl, by decide +kernel, by decide +kernel⟩
local macro_rules | `(tactic| walk_at "boxs") => `(tactic| first | walk_at "dl" | refine And.intro (show (0 : Int) < _ by decide) ?_ | refine And.intro (Or.inr ⟨by decide, by decide⟩) ?_ | refine And.intro (Or.inl ⟨by decide, by decide⟩) ?_ | refine And.intro (Or.inl ⟨by omega, by omega⟩) ?_)
theorem box_key (z : Int) (b : Bool) : atI [Dat.int 0, .int z] (if b then 1 else 0) = some (.int (if b then z else 0)) := by cases b <;> rfl
local macro_rules | `(tactic| walk_at "boxe") => `(tactic| (refine ev_lsto (av_cons (ev_ixS (DL.ev_lst (av_cons (ev_i (bnd_ok (av_cons (ev_v rfl (bnd_ok (av_nil ⟨[.int 0, .int _], rfl, Nat.le_of_ble_eq_true rfl, ?_⟩)))))))))); refine bnd_ok (ev_intB (av_cons ?_)); walk_at "dls"; refine ⟨⟨by decide, by decide, by decide⟩, ?_⟩; refine bnd_ok ⟨_, _, rfl, rfl, ?_⟩; refine bnd_ok (av_nil ⟨_, rfl, ?_⟩); refine bnd_ok ⟨_, _, _, _, _, rfl, rfl, rfl, box_key _ _, ?_⟩; refine bnd_ok (av_cons ?_); (repeat walk_at "boxs"); refine fun a => ?_; (repeat walk_at "boxs"); refine ret_rt (.dat (.dat .nil)) ?_))
abbrev boxO (a : Addr) (g s c : Int) : Ow := .l a ([Dat.int g, Dat.int s, Dat.int c].map Ow.d)
def R_law_box : Pr := fun os Pp => ∃ (ns : List Int) (k : Int), os = [.d (.scr ns), .d (.int k)] ∧ 0 ≤ k ∧ k < 1000000 ∧ ∀ a g s c, Pp (.ok (boxO a g s c)) [.d (.scr ns), .d (.int k)]
theorem R_law_box_noex (os : List Ow) (Pp : Re → List Ow → Prop) (h : R_law_box os Pp) : R_law_box os (fun r us => (match r with | .ok _ => True | .ex _ _ => False) ∧ Pp r us) := by
  obtain ⟨ns, k, h1, h2, h3, q⟩ := h
  exact ⟨ns, k, h1, h2, h3, fun a g s c => ⟨trivial, q a g s c⟩⟩
theorem ok__law_box (T : Txt mg) (F : Dfn K mg "_law_box" "_law_box" s__law_box ["script", "k"]) : Ok P w K mg base 1 "_law_box" ["script", "k"] R_law_box := by
  refine F.ok sc__law_box (by decide) (fun os Pp h => ?_) R_law_box_noex (fun f cdv A outer s H E hr => ⟨_, (pss_cons (ps_set (i := 2) sc__law_box.nd rfl (.inl rfl) (pe_op op_add (pe_op op_mul pe_int (pv 1)) pe_int)) (pss_cons (ps_if (pt_cmpR op_lt (pv 1) (pe_callB (r := rLenQ K) call_len_seq (by rfl) T.b_len (by decide +kernel) (pa_cons (pv 0) pa_nil)) (nomark _)) (pss_one (ps_set (i := 2) sc__law_box.nd rfl (.inl rfl) (pe_callB call_abs (by rfl) T.b_abs (by decide +kernel) (pa_cons (pe_ix (r := rIxL K) ix_list (pv 0) (pv 1) (fun _ _ => rfl)) pa_nil)))) (pss_one (ps_if (pt_cmpR op_gt (pe_callB (r := rLenQ K) call_len_seq (by rfl) T.b_len (by decide +kernel) (pa_cons (pv 0) pa_nil)) pe_int (nomark _)) (pss_one (ps_set (i := 2) sc__law_box.nd rfl (.inl rfl) (pe_op op_add (pv 2) (pe_op op_mul (pe_op op_mod (pe_callTy call_int1 (by rfl) T.b_int (by decide +kernel) (pa_cons (pe_callB call_abs (by rfl) T.b_abs (by decide +kernel) (pa_cons (pe_ix (r := rIxL K) ix_list (pv 0) (pe_op op_mod (pe_callTy call_int1 (by rfl) T.b_int (by decide +kernel) (pa_cons (pv 1) pa_nil)) (pe_callB (r := rLenQ K) call_len_seq (by rfl) T.b_len (by decide +kernel) (pa_cons (pv 0) pa_nil))) (fun _ _ => rfl)) pa_nil)) pa_nil)) pe_int) pe_int)))) pss_nil))) (pss_one (ps_ret (pe_lst (pa_cons (pe_ix (r := rIx K) ix_seq (pe_lst (pa_cons pe_int (pa_cons (pv 2) pa_nil))) (pe_callTy call_int1 (by rfl) T.b_int (by decide +kernel) (pa_cons (pe_cmpR op_ge (pv 2) (pe_op op_pow pe_int pe_int) (nomark _)) pa_nil)) (fun _ _ => rfl)) (pa_cons (pe_op op_add (pe_op op_mod (pe_callTy call_int1 (by rfl) T.b_int (by decide +kernel) (pa_cons (pe_op op_add (pe_op op_mul (pe_op op_mod (pe_callTy call_int1 (by rfl) T.b_int (by decide +kernel) (pa_cons (pv 2) pa_nil)) pe_int) pe_int) (pe_op op_mul pe_int (pv 1))) pa_nil)) pe_int) pe_int) (pa_cons pe_int pa_nil)))))))), fun os Pp h => ?_⟩)
  · obtain ⟨ns, k, rfl, h1, h2, q⟩ := h
    rfl
  · obtain ⟨ns, k, rfl, h1, h2, q⟩ := h
    show SvP K E0 _ [some (.d (.scr ns)), some (.d (.int k)), none] _
    walk_at "dls"
    refine ⟨.inl ⟨by omega, by omega⟩, ?_⟩
    walk_at "dls"
    refine DL.ev_lenS ?_
    walk_at "dls"
    · rename_i hb
      refine ev_ixScr ?_
      walk_at "dls"
      have hk : k.toNat < ns.length := by
        have := of_decide_eq_true hb
        omega
      refine ⟨ns, k, ns[k.toNat], rfl, rfl, ?_, ?_⟩
      · have := atD_nat (List.getElem?_eq_getElem hk)
        rw [Int.toNat_of_nonneg h1] at this
        exact this
      · generalize ns[k.toNat] = z
        walk_at "dls"
        walk_at "boxe"
        exact q _ _ _ _
    · walk_at "dls"
      refine DL.ev_lenS ?_
      walk_at "dls"
      · rename_i hb
        have hp : 0 < (ns.length : Int) := of_decide_eq_true hb
        refine ev_ixScr ?_
        walk_at "dls"
        refine DL.ev_lenS ?_
        walk_at "dls"
        refine ⟨ns, k % (ns.length : Int), ns[(k % (ns.length : Int)).toNat]'(by
          have a1 := Int.emod_lt_of_pos k hp
          have a2 := Int.emod_nonneg k (Int.ne_of_gt hp)
          omega), rfl, rfl, ?_, ?_⟩
        · have a1 := Int.emod_lt_of_pos k hp
          have a2 := Int.emod_nonneg k (Int.ne_of_gt hp)
          have hk : (k % (ns.length : Int)).toNat < ns.length := by omega
          have := atD_nat (List.getElem?_eq_getElem hk)
          rw [Int.toNat_of_nonneg a2] at this
          exact this
        · generalize ns[(k % (ns.length : Int)).toNat]'_ = z
          repeat walk_at "boxs"
          walk_at "boxe"
          exact q _ _ _ _
      · walk_at "dls"
        walk_at "boxe"
        exact q _ _ _ _

end
end K02

namespace K02
open PySem L2 Evl DL
local macro_rules | `(tactic| walk_at "dl") => `(tactic| first
  | with_reducible refine bnd_ok ?_ | with_reducible refine bndS_ok ?_ | with_reducible refine onE_ok ?_ | with_reducible refine seq_nx ?_ | with_reducible refine seq_rt ?_ | with_reducible refine seq_bk ?_ | with_reducible refine seq_ct ?_ | with_reducible refine onT_rt ?_ | with_reducible refine onT_bk ?_ | with_reducible refine resS_nx ?_ | with_reducible refine resS_rt ?_
  | refine ev_v rfl ?_ | refine ev_l rfl ?_ | with_reducible refine ev_i ?_ | with_reducible refine ev_n ?_ | with_reducible refine ev_b ?_ | with_reducible refine ev_s ?_
  | with_reducible refine ev_oZ0 ?_ | with_reducible refine ev_oB0 ?_ | with_reducible refine ev_oZ ?_ | with_reducible refine ev_neg ?_ | with_reducible refine ev_neI ?_ | with_reducible refine ev_eqI ?_ | with_reducible refine ev_isN ?_ | with_reducible refine ev_notN ?_ | with_reducible refine ev_chain ?_
  | with_reducible refine ev_andV ?_ | with_reducible refine ev_orV ?_ | with_reducible refine ev_notV ?_ | with_reducible refine ev_if ?_
  | with_reducible refine tv_test ?_ | with_reducible refine tv_B ?_ | with_reducible refine tv_and ?_ | with_reducible refine tv_or ?_ | with_reducible refine tv_not ?_ | with_reducible refine tv_yes ?_
  | with_reducible refine ev_isiInt ?_ | with_reducible refine ev_isiBool ?_ | with_reducible refine ev_isiSeq ?_
  | with_reducible refine av_cons ?_ | with_reducible refine av_nil ?_
  | with_reducible refine ev_pure ?_ | with_reducible refine ev_gcd ?_ | with_reducible refine ev_abs ?_ | with_reducible refine ev_int1 ?_
  | (with_reducible refine DL.ev_len ?_; refine av_cons ?_; refine ev_v rfl ?_; refine bnd_ok ?_; refine av_nil ?_; refine ⟨_, _, _, rfl, by first | rfl | assumption, ?_⟩)
  | with_reducible refine ev_fldD ?_ | with_reducible refine ev_ixS ?_
  | with_reducible refine sv_seq ?_ | with_reducible refine sv_next ?_ | with_reducible refine sv_brk ?_ | with_reducible refine sv_cont ?_ | with_reducible refine sv_ret ?_ | with_reducible refine sv_retN ?_ | with_reducible refine sv_if ?_ | with_reducible refine sv_drop ?_
  | with_reducible refine sv_asg ?_
  | refine ⟨_, rfl, fun hb => ?_, fun hb => ?_⟩
  | refine ⟨_, _, rfl, rfl, fun hb => ?_, fun hb => ?_⟩
  | refine ⟨_, _, rfl, rfl, ?_⟩
  | refine ⟨_, _, _, _, rfl, rfl, rfl, ?_⟩
  | refine ⟨_, rfl, ?_⟩ | refine ⟨_, _, rfl, ?_⟩
  | refine And.intro rfl ?_ | refine And.intro (Nat.le_of_ble_eq_true rfl) ?_ | refine And.intro (by assumption) ?_)
local macro_rules | `(tactic| walk_at "dls") => `(tactic| repeat (walk_at "dl"; all_goals try (first | (exact (nomatch ‹false = true›)) | (exact (nomatch ‹true = false›)))))
local macro_rules | `(tactic| walk_at "dla") => `(tactic| repeat' (first | (exact (nomatch ‹false = true›)) | (exact (nomatch ‹true = false›)) | walk_at "dl"))
local macro_rules | `(tactic| walk_at "dlr") => `(tactic| (refine ret_rt (pms_d _ _ (Nat.le_of_ble_eq_true rfl)) ?_))
local macro_rules | `(tactic| walk_at "dlt") => `(tactic| first | walk_at "dl" | with_reducible refine ev_tup2 ?_ | with_reducible refine ev_tup3 ?_)
local macro_rules | `(tactic| walk_at "dlts") => `(tactic| repeat walk_at "dlt")
section
variable {P : Program} {w : World} {K : PySem.W.Frag} [HasTabs K] {mg : Str → Option Value} {base : Heap} {CH CD : Addr}
local macro_rules | `(tactic| walk_at "boxs") => `(tactic| first | walk_at "dl" | refine And.intro (show (0 : Int) < _ by decide) ?_ | refine And.intro (Or.inr ⟨by decide, by decide⟩) ?_ | refine And.intro (Or.inl ⟨by decide, by decide⟩) ?_)
abbrev s__law_take : Stmt := topS 36
abbrev N__law_take : List Str := ["box", "many", "raw", "digit"]
theorem sc__law_take : FnScope N__law_take ["box", "many"] (defScope s__law_take) := ⟨rfl, rfl, rfl, by decide +kernel, rfl, by decide +kernel, by decide +kernel⟩
def R_law_take : Pr := fun os Pp => ∃ (a : Addr) (g s c m : Int), os = [boxO a g s c, .d (.int m)] ∧ 0 < m ∧ m < 1000000000 ∧ ∀ i g' s' c', 0 ≤ i → i < m → Pp (.ok (.d (.int i))) [boxO a g' s' c', .d (.int m)]
theorem R_law_take_noex (os : List Ow) (Pp : Re → List Ow → Prop) (h : R_law_take os Pp) : R_law_take os (fun r us => (match r with | .ok _ => True | .ex _ _ => False) ∧ Pp r us) := by
  obtain ⟨a, g, s, c, m, h1, h2, h3, q⟩ := h
  exact ⟨a, g, s, c, m, h1, h2, h3, fun i g' s' c' e1 e2 => ⟨trivial, q i g' s' c' e1 e2⟩⟩
theorem ok__law_take (T : Txt mg) (F : Dfn K mg "_law_take" "_law_take" s__law_take ["box", "many"]) : Ok P w K mg base 1 "_law_take" ["box", "many"] R_law_take := by
  refine F.ok sc__law_take (by decide) (fun os Pp h => ?_) R_law_take_noex (fun f cdv A outer s H E hr => ⟨_, (pss_cons (ps_if (pt_cmpR op_gt (pe_ix (r := rIxL K) ix_list (pv 0) pe_int (fun _ _ => rfl)) pe_int (nomark _)) (pss_cons (ps_set (i := 3) sc__law_take.nd rfl (.inl rfl) (pe_op op_mod (pe_callTy call_int1 (by rfl) T.b_int (by decide +kernel) (pa_cons (pe_ix (r := rIxL K) ix_list (pv 0) pe_int (fun _ _ => rfl)) pa_nil)) (pv 1))) (pss_cons (ps_asg (pe_op op_fdiv (pe_ix (r := rIxL K) ix_list (pv 0) pe_int (fun _ _ => rfl)) (pv 1)) (pg_sub (pv 0) pe_int set_list)) (pss_one (ps_ret (pv 3))))) pss_nil) (pss_cons (ps_asg (pe_op op_add (pe_ix (r := rIxL K) ix_list (pv 0) pe_int (fun _ _ => rfl)) pe_int) (pg_sub (pv 0) pe_int set_list)) (pss_cons (ps_set (i := 2) sc__law_take.nd rfl (.inl rfl) (pe_op op_mod (pe_callTy call_int1 (by rfl) T.b_int (by decide +kernel) (pa_cons (pe_op op_add (pe_op op_mul (pe_op op_add (pe_ix (r := rIxL K) ix_list (pv 0) pe_int (fun _ _ => rfl)) (pe_op op_mul pe_int (pe_ix (r := rIxL K) ix_list (pv 0) pe_int (fun _ _ => rfl)))) pe_int) pe_int) pa_nil)) pe_int)) (pss_cons (ps_asg (pe_op op_add (pe_op op_mod (pe_callTy call_int1 (by rfl) T.b_int (by decide +kernel) (pa_cons (pe_op op_add (pe_op op_mul (pv 2) pe_int) pe_int) pa_nil)) pe_int) pe_int) (pg_sub (pv 0) pe_int set_list)) (pss_one (ps_ret (pe_op op_mod (pe_callTy call_int1 (by rfl) T.b_int (by decide +kernel) (pa_cons (pe_op op_fdiv (pe_op op_add (pe_op op_mul (pv 2) pe_int) (pe_ix (r := rIxL K) ix_list (pv 0) pe_int (fun _ _ => rfl))) pe_int) pa_nil)) (pv 1)))))))), fun os Pp h => ?_⟩)
  · obtain ⟨a, g, sd, c, m, rfl, h1, h2, q⟩ := h
    rfl
  · obtain ⟨a, g, sd, c, m, rfl, h1, h2, q⟩ := h
    show SvP K E0 _ [some (boxO a g sd c), some (.d (.int m)), none, none] _
    have rd : ∀ {ρ : Rh} {S : EPost} {x y z : Int} (j : Nat) (u : Int), ([x, y, z] : List Int)[j]? = some u → ρ[0]? = some (some (boxO a x y z)) → S (.ok (.d (.int u))) ρ → EvP K E0 (tOp (rIxL K) (tVar 0) (tC (.int (j : Int)))) ρ S := fun {ρ S x y z} j u hj e q =>
      ev_ixO (ev_i (bnd_ok ⟨rfl, a, [.int x, .int y, .int z], j, .int u, e, rfl, atD_nat (by
        match j, hj with
        | 0, hj => cases hj; rfl
        | 1, hj => cases hj; rfl
        | 2, hj => cases hj; rfl), q⟩)) ⟨a, [.int x, .int y, .int z], e⟩
    walk_at "dls"
    refine rd 0 g rfl rfl ?_
    walk_at "dls"
    · refine rd 0 g rfl rfl ?_
      walk_at "dls"
      refine sv_set ?_
      refine ev_oZ ?_
      refine rd 0 g rfl rfl ?_
      walk_at "dls"
      refine ⟨⟨h1, by omega⟩, ?_⟩
      walk_at "dl"
      refine ⟨⟨_, _, rfl⟩, ?_⟩
      refine ev_i (bndS_ok ⟨rfl, .int (g / m), a, [.int g, .int sd, .int c], 0, rfl, rfl, rfl, Nat.le_of_ble_eq_true rfl, ?_⟩)
      walk_at "dls"
      refine ret_rt (.own rfl rfl (.dat .nil)) ?_
      exact q (g % m) (g / m) sd c (Int.emod_nonneg _ (Int.ne_of_gt h1)) (Int.emod_lt_of_pos _ h1)
    · walk_at "dls"
      refine sv_set ?_
      refine ev_oZ0 ?_
      refine rd 2 c rfl rfl ?_
      walk_at "dls"
      refine ⟨⟨_, _, rfl⟩, ?_⟩
      refine ev_i (bndS_ok ⟨rfl, _, a, [.int g, .int sd, .int c], 2, rfl, rfl, rfl, Nat.le_of_ble_eq_true rfl, ?_⟩)
      walk_at "dls"
      refine rd 1 sd rfl rfl ?_
      repeat walk_at "boxs"
      refine rd 2 (c + 1) rfl rfl ?_
      repeat walk_at "boxs"
      refine sv_set ?_
      repeat walk_at "boxs"
      refine ⟨⟨_, _, rfl⟩, ?_⟩
      refine ev_i (bndS_ok ⟨rfl, _, a, [.int g, .int sd, .int (c + 1)], 1, rfl, rfl, rfl, Nat.le_of_ble_eq_true rfl, ?_⟩)
      repeat walk_at "boxs"
      refine rd 1 _ rfl rfl ?_
      repeat walk_at "boxs"
      refine ⟨⟨by decide, by decide⟩, ?_⟩
      repeat walk_at "boxs"
      refine ret_rt (.own rfl rfl (.dat .nil)) ?_
      exact q _ g _ (c + 1) (Int.emod_nonneg _ (Int.ne_of_gt h1)) (Int.emod_lt_of_pos _ h1)

end
end K02

namespace K02
open PySem L2 Evl DL
local macro_rules | `(tactic| walk_at "dl") => `(tactic| first
  | with_reducible refine bnd_ok ?_ | with_reducible refine bndS_ok ?_ | with_reducible refine onE_ok ?_ | with_reducible refine seq_nx ?_ | with_reducible refine seq_rt ?_ | with_reducible refine seq_bk ?_ | with_reducible refine seq_ct ?_ | with_reducible refine onT_rt ?_ | with_reducible refine onT_bk ?_ | with_reducible refine resS_nx ?_ | with_reducible refine resS_rt ?_
  | refine ev_v rfl ?_ | refine ev_l rfl ?_ | with_reducible refine ev_i ?_ | with_reducible refine ev_n ?_ | with_reducible refine ev_b ?_ | with_reducible refine ev_s ?_
  | with_reducible refine ev_oZ0 ?_ | with_reducible refine ev_oB0 ?_ | with_reducible refine ev_oZ ?_ | with_reducible refine ev_neg ?_ | with_reducible refine ev_neI ?_ | with_reducible refine ev_eqI ?_ | with_reducible refine ev_isN ?_ | with_reducible refine ev_notN ?_ | with_reducible refine ev_chain ?_
  | with_reducible refine ev_andV ?_ | with_reducible refine ev_orV ?_ | with_reducible refine ev_notV ?_ | with_reducible refine ev_if ?_
  | with_reducible refine tv_test ?_ | with_reducible refine tv_B ?_ | with_reducible refine tv_and ?_ | with_reducible refine tv_or ?_ | with_reducible refine tv_not ?_ | with_reducible refine tv_yes ?_
  | with_reducible refine ev_isiInt ?_ | with_reducible refine ev_isiBool ?_ | with_reducible refine ev_isiSeq ?_
  | with_reducible refine av_cons ?_ | with_reducible refine av_nil ?_
  | with_reducible refine ev_pure ?_ | with_reducible refine ev_gcd ?_ | with_reducible refine ev_abs ?_ | with_reducible refine ev_int1 ?_
  | (with_reducible refine DL.ev_len ?_; refine av_cons ?_; refine ev_v rfl ?_; refine bnd_ok ?_; refine av_nil ?_; refine ⟨_, _, _, rfl, by first | rfl | assumption, ?_⟩)
  | with_reducible refine ev_fldD ?_ | with_reducible refine ev_ixS ?_
  | with_reducible refine sv_seq ?_ | with_reducible refine sv_next ?_ | with_reducible refine sv_brk ?_ | with_reducible refine sv_cont ?_ | with_reducible refine sv_ret ?_ | with_reducible refine sv_retN ?_ | with_reducible refine sv_if ?_ | with_reducible refine sv_drop ?_
  | with_reducible refine sv_asg ?_
  | refine ⟨_, rfl, fun hb => ?_, fun hb => ?_⟩
  | refine ⟨_, _, rfl, rfl, fun hb => ?_, fun hb => ?_⟩
  | refine ⟨_, _, rfl, rfl, ?_⟩
  | refine ⟨_, _, _, _, rfl, rfl, rfl, ?_⟩
  | refine ⟨_, rfl, ?_⟩ | refine ⟨_, _, rfl, ?_⟩
  | refine And.intro rfl ?_ | refine And.intro (Nat.le_of_ble_eq_true rfl) ?_ | refine And.intro (by assumption) ?_)
local macro_rules | `(tactic| walk_at "dls") => `(tactic| repeat (walk_at "dl"; all_goals try (first | (exact (nomatch ‹false = true›)) | (exact (nomatch ‹true = false›)))))
local macro_rules | `(tactic| walk_at "dla") => `(tactic| repeat' (first | (exact (nomatch ‹false = true›)) | (exact (nomatch ‹true = false›)) | walk_at "dl"))
local macro_rules | `(tactic| walk_at "dlr") => `(tactic| (refine ret_rt (pms_d _ _ (Nat.le_of_ble_eq_true rfl)) ?_))
local macro_rules | `(tactic| walk_at "dlt") => `(tactic| first | walk_at "dl" | with_reducible refine ev_tup2 ?_ | with_reducible refine ev_tup3 ?_)
local macro_rules | `(tactic| walk_at "dlts") => `(tactic| repeat walk_at "dlt")
section
variable {P : Program} {w : World} {K : PySem.W.Frag} [HasTabs K] {mg : Str → Option Value} {base : Heap} {CH CD : Addr}
abbrev s__law_pick : Stmt := topS 37
abbrev N__law_pick : List Str := ["box", "some"]
theorem sc__law_pick : FnScope N__law_pick ["box", "some"] (defScope s__law_pick) := ⟨rfl, rfl, rfl, by decide +kernel, rfl, by decide +kernel, by decide +kernel⟩
def R_law_pick : Pr := fun os Pp => ∃ (a : Addr) (g s c : Int) (xs : List Dat), os = [boxO a g s c, .d (.lst xs)] ∧ 0 < xs.length ∧ xs.length < 1000 ∧ ∀ x ∈ xs, ∀ g' s' c', Pp (.ok (.d x)) [boxO a g' s' c', .d (.lst xs)]
theorem R_law_pick_noex (os : List Ow) (Pp : Re → List Ow → Prop) (h : R_law_pick os Pp) : R_law_pick os (fun r us => (match r with | .ok _ => True | .ex _ _ => False) ∧ Pp r us) := by
  obtain ⟨a, g, s, c, xs, h1, h2, h3, q⟩ := h
  exact ⟨a, g, s, c, xs, h1, h2, h3, fun x hx g' s' c' => ⟨trivial, q x hx g' s' c'⟩⟩
theorem ok__law_pick (T : Txt mg) (O__law_take : Ok P w K mg base 1 "_law_take" ["box", "many"] R_law_take) (F : Dfn K mg "_law_pick" "_law_pick" s__law_pick ["box", "some"]) : Ok P w K mg base 2 "_law_pick" ["box", "some"] R_law_pick := by
  refine F.ok sc__law_pick (by decide) (fun os Pp h => ?_) R_law_pick_noex (fun f cdv A outer s H E hr => ⟨_, (pss_one (ps_ret (pe_ix (r := rIx K) ix_seq (pv 1) (pe_fn O__law_take ⟨rfl, rfl, rfl, rfl, rfl⟩ (hr.mono (by decide)) rfl (pa_cons (pv 0) (pa_cons (pe_callB (r := rLenQ K) call_len_seq (by rfl) T.b_len (by decide +kernel) (pa_cons (pv 1) pa_nil)) pa_nil))) (fun _ _ => rfl)))), fun os Pp h => ?_⟩)
  · obtain ⟨a, g, sd, c, xs, rfl, h1, h2, q⟩ := h
    rfl
  · obtain ⟨a, g, sd, c, xs, rfl, h1, h2, q⟩ := h
    show SvP K E0 _ [some (boxO a g sd c), some (.d (.lst xs))] _
    walk_at "dls"
    refine ev_call ?_
    walk_at "dls"
    refine DL.ev_len ?_
    walk_at "dls"
    refine ⟨_, _, _, rfl, rfl, ?_⟩
    walk_at "dls"
    refine ⟨a, g, sd, c, xs.length, rfl, by omega, by omega, fun i g' s' c' h3 h4 => ?_⟩
    have hi : i.toNat < xs.length := by omega
    simp only [bks, bk, List.set, bkG_d, bkG_at, bkG_n]
    walk_at "dls"
    refine ⟨_, _, _, _, xs[i.toNat], rfl, rfl, rfl, ?_, ?_⟩
    · have := atD_nat (List.getElem?_eq_getElem hi)
      rw [Int.toNat_of_nonneg h3] at this
      exact this
    · walk_at "dls"
      refine ret_rt (.own rfl rfl (.dat .nil)) ?_
      exact q _ (List.getElem_mem _) g' s' c'

end
end K02

namespace K02
open PySem L2 Evl DL
local macro_rules | `(tactic| walk_at "dl") => `(tactic| first
  | with_reducible refine bnd_ok ?_ | with_reducible refine bndS_ok ?_ | with_reducible refine onE_ok ?_ | with_reducible refine seq_nx ?_ | with_reducible refine seq_rt ?_ | with_reducible refine seq_bk ?_ | with_reducible refine seq_ct ?_ | with_reducible refine onT_rt ?_ | with_reducible refine onT_bk ?_ | with_reducible refine resS_nx ?_ | with_reducible refine resS_rt ?_
  | refine ev_v rfl ?_ | refine ev_l rfl ?_ | with_reducible refine ev_i ?_ | with_reducible refine ev_n ?_ | with_reducible refine ev_b ?_ | with_reducible refine ev_s ?_
  | with_reducible refine ev_oZ0 ?_ | with_reducible refine ev_oB0 ?_ | with_reducible refine ev_oZ ?_ | with_reducible refine ev_neg ?_ | with_reducible refine ev_neI ?_ | with_reducible refine ev_eqI ?_ | with_reducible refine ev_isN ?_ | with_reducible refine ev_notN ?_ | with_reducible refine ev_chain ?_
  | with_reducible refine ev_andV ?_ | with_reducible refine ev_orV ?_ | with_reducible refine ev_notV ?_ | with_reducible refine ev_if ?_
  | with_reducible refine tv_test ?_ | with_reducible refine tv_B ?_ | with_reducible refine tv_and ?_ | with_reducible refine tv_or ?_ | with_reducible refine tv_not ?_ | with_reducible refine tv_yes ?_
  | with_reducible refine ev_isiInt ?_ | with_reducible refine ev_isiBool ?_ | with_reducible refine ev_isiSeq ?_
  | with_reducible refine av_cons ?_ | with_reducible refine av_nil ?_
  | with_reducible refine ev_pure ?_ | with_reducible refine ev_gcd ?_ | with_reducible refine ev_abs ?_ | with_reducible refine ev_int1 ?_
  | (with_reducible refine DL.ev_len ?_; refine av_cons ?_; refine ev_v rfl ?_; refine bnd_ok ?_; refine av_nil ?_; refine ⟨_, _, _, rfl, by first | rfl | assumption, ?_⟩)
  | with_reducible refine ev_fldD ?_ | with_reducible refine ev_ixS ?_
  | with_reducible refine sv_seq ?_ | with_reducible refine sv_next ?_ | with_reducible refine sv_brk ?_ | with_reducible refine sv_cont ?_ | with_reducible refine sv_ret ?_ | with_reducible refine sv_retN ?_ | with_reducible refine sv_if ?_ | with_reducible refine sv_drop ?_
  | with_reducible refine sv_asg ?_
  | refine ⟨_, rfl, fun hb => ?_, fun hb => ?_⟩
  | refine ⟨_, _, rfl, rfl, fun hb => ?_, fun hb => ?_⟩
  | refine ⟨_, _, rfl, rfl, ?_⟩
  | refine ⟨_, _, _, _, rfl, rfl, rfl, ?_⟩
  | refine ⟨_, rfl, ?_⟩ | refine ⟨_, _, rfl, ?_⟩
  | refine And.intro rfl ?_ | refine And.intro (Nat.le_of_ble_eq_true rfl) ?_ | refine And.intro (by assumption) ?_)
local macro_rules | `(tactic| walk_at "dls") => `(tactic| repeat (walk_at "dl"; all_goals try (first | (exact (nomatch ‹false = true›)) | (exact (nomatch ‹true = false›)))))
local macro_rules | `(tactic| walk_at "dla") => `(tactic| repeat' (first | (exact (nomatch ‹false = true›)) | (exact (nomatch ‹true = false›)) | walk_at "dl"))
local macro_rules | `(tactic| walk_at "dlr") => `(tactic| (refine ret_rt (pms_d _ _ (Nat.le_of_ble_eq_true rfl)) ?_))
local macro_rules | `(tactic| walk_at "dlt") => `(tactic| first | walk_at "dl" | with_reducible refine ev_tup2 ?_ | with_reducible refine ev_tup3 ?_)
local macro_rules | `(tactic| walk_at "dlts") => `(tactic| repeat walk_at "dlt")
section
variable {P : Program} {w : World} {K : PySem.W.Frag} [HasTabs K] {mg : Str → Option Value} {base : Heap} {CH CD : Addr}
abbrev s_Refused___init__ : Stmt := inClass (topS 12) 0
abbrev N_Refused___init__ : List Str := ["self", "at"]
theorem sc_Refused___init__ : FnScope N_Refused___init__ ["self", "at"] (defScope s_Refused___init__) := ⟨rfl, rfl, rfl, by decide +kernel, rfl, by decide +kernel, by decide +kernel⟩
abbrev s_BadStory___init__ : Stmt := inClass (topS 10) 0
abbrev N_BadStory___init__ : List Str := ["self", "at"]
theorem sc_BadStory___init__ : FnScope N_BadStory___init__ ["self", "at"] (defScope s_BadStory___init__) := ⟨rfl, rfl, rfl, by decide +kernel, rfl, by decide +kernel, by decide +kernel⟩
abbrev s_BadLogs___init__ : Stmt := inClass (topS 11) 0
abbrev N_BadLogs___init__ : List Str := ["self", "at"]
theorem sc_BadLogs___init__ : FnScope N_BadLogs___init__ ["self", "at"] (defScope s_BadLogs___init__) := ⟨rfl, rfl, rfl, by decide +kernel, rfl, by decide +kernel, by decide +kernel⟩
abbrev s_NoHand___init__ : Stmt := inClass (topS 13) 0
abbrev N_NoHand___init__ : List Str := ["self", "hand"]
theorem sc_NoHand___init__ : FnScope N_NoHand___init__ ["self", "hand"] (defScope s_NoHand___init__) := ⟨rfl, rfl, rfl, by decide +kernel, rfl, by decide +kernel, by decide +kernel⟩
theorem er_Refused {CR : Addr} (F : DfnE K mg "Refused" "Refused.__init__" s_Refused___init__ CR ["at"]) : ErrC P w K mg base "Refused" CR ["at"] := F.err1 rfl sc_Refused___init__ (.inl rfl) (.inl rfl) rfl rfl
theorem er_BadStory {CS : Addr} (F : DfnE K mg "BadStory" "BadStory.__init__" s_BadStory___init__ CS ["at"]) : ErrC P w K mg base "BadStory" CS ["at"] := F.err1 rfl sc_BadStory___init__ (.inl rfl) (.inl rfl) rfl rfl
theorem er_BadLogs {CL : Addr} (F : DfnE K mg "BadLogs" "BadLogs.__init__" s_BadLogs___init__ CL ["at"]) : ErrC P w K mg base "BadLogs" CL ["at"] := F.err1 rfl sc_BadLogs___init__ (.inl rfl) (.inl rfl) rfl rfl
theorem er_NoHand {CN : Addr} (F : DfnN K mg "NoHand" "NoHand.__init__" s_NoHand___init__ CN "hand") : ErrN P w K mg base "NoHand" CN "hand" := F.err rfl sc_NoHand___init__ (.inl rfl) (.inl rfl) rfl rfl
theorem _root_.DL.DfnK.dfn {K : PySem.W.Frag} {mg : Str → Option Value} {x qual : Str} {st : Stmt} {ps : List Str} (F : DfnK K mg x qual st ps) : Dfn K mg x qual st ps := by
  obtain ⟨f, fd, h1, h2, h3, _, h5⟩ := F.ex
  exact ⟨f, fd, h1, h2, h3, h5⟩

end
end K02

namespace K02
open PySem L2 Evl DL
local macro_rules | `(tactic| walk_at "dl") => `(tactic| first
  | with_reducible refine bnd_ok ?_ | with_reducible refine bndS_ok ?_ | with_reducible refine onE_ok ?_ | with_reducible refine seq_nx ?_ | with_reducible refine seq_rt ?_ | with_reducible refine seq_bk ?_ | with_reducible refine seq_ct ?_ | with_reducible refine onT_rt ?_ | with_reducible refine onT_bk ?_ | with_reducible refine resS_nx ?_ | with_reducible refine resS_rt ?_
  | refine ev_v rfl ?_ | refine ev_l rfl ?_ | with_reducible refine ev_i ?_ | with_reducible refine ev_n ?_ | with_reducible refine ev_b ?_ | with_reducible refine ev_s ?_
  | with_reducible refine ev_oZ0 ?_ | with_reducible refine ev_oB0 ?_ | with_reducible refine ev_oZ ?_ | with_reducible refine ev_neg ?_ | with_reducible refine ev_neI ?_ | with_reducible refine ev_eqI ?_ | with_reducible refine ev_isN ?_ | with_reducible refine ev_notN ?_ | with_reducible refine ev_chain ?_
  | with_reducible refine ev_andV ?_ | with_reducible refine ev_orV ?_ | with_reducible refine ev_notV ?_ | with_reducible refine ev_if ?_
  | with_reducible refine tv_test ?_ | with_reducible refine tv_B ?_ | with_reducible refine tv_and ?_ | with_reducible refine tv_or ?_ | with_reducible refine tv_not ?_ | with_reducible refine tv_yes ?_
  | with_reducible refine ev_isiInt ?_ | with_reducible refine ev_isiBool ?_ | with_reducible refine ev_isiSeq ?_
  | with_reducible refine av_cons ?_ | with_reducible refine av_nil ?_
  | with_reducible refine ev_pure ?_ | with_reducible refine ev_gcd ?_ | with_reducible refine ev_abs ?_ | with_reducible refine ev_int1 ?_
  | (with_reducible refine DL.ev_len ?_; refine av_cons ?_; refine ev_v rfl ?_; refine bnd_ok ?_; refine av_nil ?_; refine ⟨_, _, _, rfl, by first | rfl | assumption, ?_⟩)
  | with_reducible refine ev_fldD ?_ | with_reducible refine ev_ixS ?_
  | with_reducible refine sv_seq ?_ | with_reducible refine sv_next ?_ | with_reducible refine sv_brk ?_ | with_reducible refine sv_cont ?_ | with_reducible refine sv_ret ?_ | with_reducible refine sv_retN ?_ | with_reducible refine sv_if ?_ | with_reducible refine sv_drop ?_
  | with_reducible refine sv_asg ?_
  | refine ⟨_, rfl, fun hb => ?_, fun hb => ?_⟩
  | refine ⟨_, _, rfl, rfl, fun hb => ?_, fun hb => ?_⟩
  | refine ⟨_, _, rfl, rfl, ?_⟩
  | refine ⟨_, _, _, _, rfl, rfl, rfl, ?_⟩
  | refine ⟨_, rfl, ?_⟩ | refine ⟨_, _, rfl, ?_⟩
  | refine And.intro rfl ?_ | refine And.intro (Nat.le_of_ble_eq_true rfl) ?_ | refine And.intro (by assumption) ?_)
local macro_rules | `(tactic| walk_at "dls") => `(tactic| repeat (walk_at "dl"; all_goals try (first | (exact (nomatch ‹false = true›)) | (exact (nomatch ‹true = false›)))))
local macro_rules | `(tactic| walk_at "dla") => `(tactic| repeat' (first | (exact (nomatch ‹false = true›)) | (exact (nomatch ‹true = false›)) | walk_at "dl"))
local macro_rules | `(tactic| walk_at "dlr") => `(tactic| (refine ret_rt (pms_d _ _ (Nat.le_of_ble_eq_true rfl)) ?_))
local macro_rules | `(tactic| walk_at "dlt") => `(tactic| first | walk_at "dl" | with_reducible refine ev_tup2 ?_ | with_reducible refine ev_tup3 ?_)
local macro_rules | `(tactic| walk_at "dlts") => `(tactic| repeat walk_at "dlt")
section
variable {P : Program} {w : World} {K : PySem.W.Frag} [HasTabs K] {mg : Str → Option Value} {base : Heap} {CH CD : Addr}
abbrev s__law_heard : Stmt := topS 38
abbrev N__law_heard : List Str := ["ask", "e"]
theorem sc__law_heard : FnScope N__law_heard ["ask"] (defScope s__law_heard) := ⟨rfl, rfl, rfl, by decide +kernel, rfl, by decide +kernel, by decide +kernel⟩
abbrev cls4 (K : PySem.W.Frag) (CS CL CR CN CE : Addr) : List ClT := [⟨CS, teTag K CS "story" [.fld "at"]⟩, ⟨CL, teTag K CL "logs" [.fld "at"]⟩, ⟨CR, teTag K CR "refused" [.shown "at", .isx CE]⟩, ⟨CN, teTag K CN "hand" [.shown "hand"]⟩]
/-- the classes that the law's def names, and their fields -/
structure HeardB (K : PySem.W.Frag) (mg : Str → Option Value) (CS CL CR CN CE : Addr) : Prop where
  mS : mg "BadStory" = some (.ref CS)
  mL : mg "BadLogs" = some (.ref CL)
  mR : mg "Refused" = some (.ref CR)
  mN : mg "NoHand" = some (.ref CN)
  mE : mg "LogError" = some (.ref CE)
  xS : XfC K CS
  xL : XfC K CL
  xR : XfC K CR
  xN : XfC K CN
  nS : PySem.W.findIn K (.ref CS) "at" = some none
  nL : PySem.W.findIn K (.ref CL) "at" = some none
  nR : PySem.W.findIn K (.ref CR) "at" = some none
  nN : PySem.W.findIn K (.ref CN) "hand" = some none
  ed : ExcD K CR
  eE : PySem.W.kitOne K (.ref CR) (.ref CE) = some true
  ap : ApartT K (cls4 K CS CL CR CN CE)
  ne : [CS, CL, CR, CN].Nodup
theorem heard_rule {X : Cx} {CS CL CR CN CE : Addr} {k : Nat} (hgd : X.A.guards = some []) (hr : Room (k + 2) X.A) (T : Txt mg) (Hd : HeardB K mg CS CL CR CN CE) (hX : X.K = K ∧ X.mg = mg) (g : Addr) (cdg : Value) (q : Str) :
    LamX.GivesTo X ["ask", "e"] "_law_heard" (defScope s__law_heard) g cdg (defBody s__law_heard) "ask" q (TTm K (cls4 K CS CL CR CN CE)) := by
  obtain ⟨rfl, rfl⟩ := hX
  have hu : X.A.units + 1 + 65 < cLine := by
    have := hr.un
    omega
  refine many_gives (cs := cls4 X.K CS CL CR CN CE) (by decide) rfl (fun s H => ?_)
  refine .cons ⟨rfl, rfl, .inl Hd.mS⟩ (fun a oe cls d pn hz hf => pss_one (ps_ret (show PE _ _ (tTup (tCons (tC (.str "story")) (tCons (tXf a cls d CS "at" (tVar 1)) tNil))) from pe_tup (pa_cons pe_str (pa_cons (pe_xf Hd.xS Hd.nS hz hf (pv 1)) pa_nil))))) ?_
  refine .cons ⟨rfl, rfl, .inl Hd.mL⟩ (fun a oe cls d pn hz hf => pss_one (ps_ret (show PE _ _ (tTup (tCons (tC (.str "logs")) (tCons (tXf a cls d CL "at" (tVar 1)) tNil))) from pe_tup (pa_cons pe_str (pa_cons (pe_xf Hd.xL Hd.nL hz hf (pv 1)) pa_nil))))) ?_
  refine .cons ⟨rfl, rfl, .inl Hd.mR⟩ (fun a oe cls d pn hz hf => pss_one (ps_ret (show PE _ _ (tTup (tCons (tC (.str "refused")) (tCons (tCB (rReprD X.K) (tCons (tXf a cls d CR "at" (tVar 1)) tNil)) (tCons (tCB (rIsX X.K a cls d) (tCons (tVar 1) (tCons (tC (.ref CE)) tNil))) tNil)))) from pe_tup (pa_cons pe_str (pa_cons (pe_callB (r := rReprD X.K) (call_reprD hgd ?_) rfl T.b_repr rfl (pa_cons (pe_xf Hd.xR Hd.nR hz hf (pv 1)) pa_nil)) (pa_cons (pe_callB (call_isX hz hf) rfl T.b_isinstance rfl (pa_cons (pv 1) (pa_cons (C8.pe_gc rfl ⟨_, Hd.mE, rfl⟩) pa_nil))) pa_nil)))))) ?_
  · have := hr.un
    show X.A.units + _ + 65 < cLine
    omega
  refine .cons ⟨rfl, rfl, .inl Hd.mN⟩ (fun a oe cls d pn hz hf => pss_one (ps_ret (show PE _ _ (tTup (tCons (tC (.str "hand")) (tCons (tCB (rReprD X.K) (tCons (tXf a cls d CN "hand" (tVar 1)) tNil)) tNil))) from pe_tup (pa_cons pe_str (pa_cons (pe_callB (r := rReprD X.K) (call_reprD hgd ?_) rfl T.b_repr rfl (pa_cons (pe_xf Hd.xN Hd.nN hz hf (pv 1)) pa_nil)) pa_nil))))) .nil
  · have := hr.un
    show X.A.units + _ + 65 < cLine
    omega
section
variable {CS CL CR CN CE : Addr}
theorem HeardB.story (Hd : HeardB K mg CS CL CR CN CE) (x : Dat) : ∃ c ∈ cls4 K CS CL CR CN CE, c.C = CS ∧ Tells K c.te CS [("at", x)] (.tup [.str "story", x]) :=
  ⟨_, List.mem_cons_self, rfl, tells_tag (by decide) ⟨x, [], rfl, rfl, rfl⟩⟩
theorem HeardB.logs (Hd : HeardB K mg CS CL CR CN CE) (x : Dat) : ∃ c ∈ cls4 K CS CL CR CN CE, c.C = CL ∧ Tells K c.te CL [("at", x)] (.tup [.str "logs", x]) :=
  ⟨_, List.mem_cons_of_mem _ List.mem_cons_self, rfl, tells_tag (by decide) ⟨x, [], rfl, rfl, rfl⟩⟩
theorem HeardB.refused (Hd : HeardB K mg CS CL CR CN CE) {x : Dat} {n c0 : Nat} (h : Shw n c0 x) (hn : n ≤ 64) (hc : c0 ≤ 16000000) : ∃ c ∈ cls4 K CS CL CR CN CE, c.C = CR ∧ Tells K c.te CR [("at", x)] (.tup [.str "refused", .str x.py.shown, .bl true]) :=
  ⟨_, List.mem_cons_of_mem _ (List.mem_cons_of_mem _ List.mem_cons_self), rfl, tells_tag (show 2 ≤ 900 by decide) ⟨x, [.bl true], rfl, h.ok hn hc, ⟨true, [], Hd.ed, Hd.eE, rfl, rfl⟩, rfl⟩⟩
theorem HeardB.hand (Hd : HeardB K mg CS CL CR CN CE) {x : Dat} {n c0 : Nat} (h : Shw n c0 x) (hn : n ≤ 64) (hc : c0 ≤ 16000000) : ∃ c ∈ cls4 K CS CL CR CN CE, c.C = CN ∧ Tells K c.te CN [("hand", x)] (.tup [.str "hand", .str x.py.shown]) :=
  ⟨_, List.mem_cons_of_mem _ (List.mem_cons_of_mem _ (List.mem_cons_of_mem _ List.mem_cons_self)), rfl, tells_tag (by decide) ⟨x, [], rfl, h.ok hn hc, rfl, rfl⟩⟩
end

end
end K02

namespace K02
open PySem L2 Evl DL
local macro_rules | `(tactic| walk_at "dl") => `(tactic| first
  | with_reducible refine bnd_ok ?_ | with_reducible refine bndS_ok ?_ | with_reducible refine onE_ok ?_ | with_reducible refine seq_nx ?_ | with_reducible refine seq_rt ?_ | with_reducible refine seq_bk ?_ | with_reducible refine seq_ct ?_ | with_reducible refine onT_rt ?_ | with_reducible refine onT_bk ?_ | with_reducible refine resS_nx ?_ | with_reducible refine resS_rt ?_
  | refine ev_v rfl ?_ | refine ev_l rfl ?_ | with_reducible refine ev_i ?_ | with_reducible refine ev_n ?_ | with_reducible refine ev_b ?_ | with_reducible refine ev_s ?_
  | with_reducible refine ev_oZ0 ?_ | with_reducible refine ev_oB0 ?_ | with_reducible refine ev_oZ ?_ | with_reducible refine ev_neg ?_ | with_reducible refine ev_neI ?_ | with_reducible refine ev_eqI ?_ | with_reducible refine ev_isN ?_ | with_reducible refine ev_notN ?_ | with_reducible refine ev_chain ?_
  | with_reducible refine ev_andV ?_ | with_reducible refine ev_orV ?_ | with_reducible refine ev_notV ?_ | with_reducible refine ev_if ?_
  | with_reducible refine tv_test ?_ | with_reducible refine tv_B ?_ | with_reducible refine tv_and ?_ | with_reducible refine tv_or ?_ | with_reducible refine tv_not ?_ | with_reducible refine tv_yes ?_
  | with_reducible refine ev_isiInt ?_ | with_reducible refine ev_isiBool ?_ | with_reducible refine ev_isiSeq ?_
  | with_reducible refine av_cons ?_ | with_reducible refine av_nil ?_
  | with_reducible refine ev_pure ?_ | with_reducible refine ev_gcd ?_ | with_reducible refine ev_abs ?_ | with_reducible refine ev_int1 ?_
  | (with_reducible refine DL.ev_len ?_; refine av_cons ?_; refine ev_v rfl ?_; refine bnd_ok ?_; refine av_nil ?_; refine ⟨_, _, _, rfl, by first | rfl | assumption, ?_⟩)
  | with_reducible refine ev_fldD ?_ | with_reducible refine ev_ixS ?_
  | with_reducible refine sv_seq ?_ | with_reducible refine sv_next ?_ | with_reducible refine sv_brk ?_ | with_reducible refine sv_cont ?_ | with_reducible refine sv_ret ?_ | with_reducible refine sv_retN ?_ | with_reducible refine sv_if ?_ | with_reducible refine sv_drop ?_
  | with_reducible refine sv_asg ?_
  | refine ⟨_, rfl, fun hb => ?_, fun hb => ?_⟩
  | refine ⟨_, _, rfl, rfl, fun hb => ?_, fun hb => ?_⟩
  | refine ⟨_, _, rfl, rfl, ?_⟩
  | refine ⟨_, _, _, _, rfl, rfl, rfl, ?_⟩
  | refine ⟨_, rfl, ?_⟩ | refine ⟨_, _, rfl, ?_⟩
  | refine And.intro rfl ?_ | refine And.intro (Nat.le_of_ble_eq_true rfl) ?_ | refine And.intro (by assumption) ?_)
local macro_rules | `(tactic| walk_at "dls") => `(tactic| repeat (walk_at "dl"; all_goals try (first | (exact (nomatch ‹false = true›)) | (exact (nomatch ‹true = false›)))))
local macro_rules | `(tactic| walk_at "dla") => `(tactic| repeat' (first | (exact (nomatch ‹false = true›)) | (exact (nomatch ‹true = false›)) | walk_at "dl"))
local macro_rules | `(tactic| walk_at "dlr") => `(tactic| (refine ret_rt (pms_d _ _ (Nat.le_of_ble_eq_true rfl)) ?_))
local macro_rules | `(tactic| walk_at "dlt") => `(tactic| first | walk_at "dl" | with_reducible refine ev_tup2 ?_ | with_reducible refine ev_tup3 ?_)
local macro_rules | `(tactic| walk_at "dlts") => `(tactic| repeat walk_at "dlt")
section
variable {P : Program} {w : World} {K : PySem.W.Frag} [HasTabs K] {mg : Str → Option Value} {base : Heap} {CH CD : Addr}
abbrev s_check_items : Stmt := topS 23
abbrev N_check_items : List Str := ["value", "bound", "at", "item"]
theorem sc_check_items : FnScope N_check_items ["value", "bound"] (defScope s_check_items) := ⟨rfl, rfl, rfl, by decide +kernel, rfl, by decide +kernel, by decide +kernel⟩
def R_check_items : List Dat → Dat → Prop := fun ds d => ∃ (m0 : Int) (y : Dat) (t : Bool) (hs : List Int), ds = [y, .int m0] ∧ y.tyn.isSome = true ∧ y.seq = some (t, hs.map Dat.int) ∧ hs.length ≤ 10000 ∧ (∀ h ∈ hs, 0 ≤ h ∧ h < m0) ∧ d = .tup (hs.map Dat.int)
theorem ok_check_items (T : Txt mg) (O_is_sequence : Ok P w K mg base 1 "is_sequence" ["value"] (pureR R_is_sequence)) (O_is_below : Ok P w K mg base 2 "is_below" ["value", "bound"] (pureR R_is_below)) (F : Dfn K mg "check_items" "check_items" s_check_items ["value", "bound"]) : Ok P w K mg base 3 "check_items" ["value", "bound"] (pureR R_check_items) := by
  refine F.ok sc_check_items (by decide) (fun os Pp h => ?_) pureR_noex (fun f cdv A outer s H E hr => ⟨_, (pss_cons (ps_if (PW.pt (pw_or (pt_not (pt_val (pe_fn O_is_sequence ⟨rfl, rfl, rfl, rfl, rfl⟩ (hr.mono (by decide)) rfl (pa_cons (pv 0) pa_nil)))) (pw_or1 (pt_cmpR op_gt (pe_callB (r := rLenQ K) call_len_seq (by rfl) T.b_len (by decide +kernel) (pa_cons (pv 0) pa_nil)) (pe_const T.c_LONGEST rfl) (nomark _))))) (pss_one ps_never) pss_nil) (pss_cons (ps_for PassesOwn.never rfl (pi_enumK (K := K) rfl (by rfl) T.b_enumerate (pa_cons (pv 0) pa_nil)) (pg_tup rfl (pgs_cons (pg_name (i := 2) sc_check_items.nd rfl (.inl rfl)) (pgs_cons (pg_name (i := 3) sc_check_items.nd rfl (.inl rfl)) pgs_nil))) (pss_one (ps_if (pt_not (pt_val (pe_fn O_is_below ⟨rfl, rfl, rfl, rfl, rfl⟩ (hr.mono (by decide)) rfl (pa_cons (pv 3) (pa_cons (pv 1) pa_nil))))) (pss_one ps_never) pss_nil))) (pss_one (ps_ret (pe_callTy (r := rTupO K) call_tuple_of (by rfl) T.b_tuple (by decide +kernel) (pa_cons (pv 0) pa_nil)))))), fun os Pp h => ?_⟩)
  · obtain ⟨ds, d, rfl, ⟨m0, y, t, hs, rfl, hx, hy, hl, hb, rfl⟩, q⟩ := h
    rfl
  · obtain ⟨ds, d, rfl, ⟨m0, y, t, hs, rfl, hx, hy, hl, hb, rfl⟩, q⟩ := h
    show SvP K E0 _ [some (.d y), some (.d (.int m0)), none, none] _
    walk_at "dls"
    refine ⟨[y], _, rfl, ⟨y, rfl, hx, rfl⟩, ?_⟩
    walk_at "dls"
    · rename_i hb _
      rw [seq_isSeq hy] at hb
      exact nomatch hb
    · walk_at "dls"
      · rename_i hb2
        rw [List.length_map] at hb2
        simp at hb2
        omega
      · walk_at "dls"
        refine sv_for (ws := [2] ++ ([3] ++ [])) ?_
        refine iv_enum ?_
        walk_at "dls"
        refine ⟨_, _, _, rfl, hy, ?_⟩
        refine loop_inv (fun i ρ' => ∃ u v, ρ' = [some (.d y), some (.d (.int m0)), u, v]) ⟨_, _, rfl⟩ (fun i d ρ' hi he => ?_) (fun ρ' he => ?_)
        · obtain ⟨u, v, rfl⟩ := he
          have hd : ∃ m ∈ hs, d = .tup [.int (i : Int), .int m] := by
            cases hm : (hs.map Dat.int)[i]? with
            | none =>
              have : (enumD (hs.map Dat.int))[i]? = none := by
                rw [List.getElem?_eq_none_iff] at hm ⊢
                rw [enumD_len]
                exact hm
              rw [this] at hi
              cases hi
            | some z =>
              rw [enumD_get hm] at hi
              rw [List.getElem?_map] at hm
              cases hm2 : hs[i]? with
              | none => rw [hm2] at hm; cases hm
              | some m =>
                rw [hm2] at hm
                cases hm
                exact ⟨m, List.mem_of_getElem? hm2, (Option.some.inj hi).symm⟩
          obtain ⟨m, hm, rfl⟩ := hd
          refine gv_tup rfl (gs_cons (gv_name (Nat.le_of_ble_eq_true rfl) (gs_cons (gv_name (Nat.le_of_ble_eq_true rfl) (gs_nil ?_)))))
          walk_at "dls"
          refine ⟨[.int m, .int m0], _, rfl, ⟨_, _, rfl, rfl, rfl⟩, ?_⟩
          have e : isBelow (.int m) m0 = true := by
            have := hb m hm
            show (decide (0 ≤ m) && decide (m < m0)) = true
            simp
            omega
          rw [e]
          walk_at "dls"
          exact onT_nx (Wk.refl _) ⟨_, _, rfl⟩
        · obtain ⟨u, v, rfl⟩ := he
          walk_at "dls"
          refine DL.ev_tupD ?_
          walk_at "dls"
          refine ⟨_, _, _, rfl, hy, ?_⟩
          walk_at "dls"; walk_at "dlr"
          exact q

end
end K02

namespace K02
open PySem L2 Evl DL
local macro_rules | `(tactic| walk_at "dl") => `(tactic| first
  | with_reducible refine bnd_ok ?_ | with_reducible refine bndS_ok ?_ | with_reducible refine onE_ok ?_ | with_reducible refine seq_nx ?_ | with_reducible refine seq_rt ?_ | with_reducible refine seq_bk ?_ | with_reducible refine seq_ct ?_ | with_reducible refine onT_rt ?_ | with_reducible refine onT_bk ?_ | with_reducible refine resS_nx ?_ | with_reducible refine resS_rt ?_
  | refine ev_v rfl ?_ | refine ev_l rfl ?_ | with_reducible refine ev_i ?_ | with_reducible refine ev_n ?_ | with_reducible refine ev_b ?_ | with_reducible refine ev_s ?_
  | with_reducible refine ev_oZ0 ?_ | with_reducible refine ev_oB0 ?_ | with_reducible refine ev_oZ ?_ | with_reducible refine ev_neg ?_ | with_reducible refine ev_neI ?_ | with_reducible refine ev_eqI ?_ | with_reducible refine ev_isN ?_ | with_reducible refine ev_notN ?_ | with_reducible refine ev_chain ?_
  | with_reducible refine ev_andV ?_ | with_reducible refine ev_orV ?_ | with_reducible refine ev_notV ?_ | with_reducible refine ev_if ?_
  | with_reducible refine tv_test ?_ | with_reducible refine tv_B ?_ | with_reducible refine tv_and ?_ | with_reducible refine tv_or ?_ | with_reducible refine tv_not ?_ | with_reducible refine tv_yes ?_
  | with_reducible refine ev_isiInt ?_ | with_reducible refine ev_isiBool ?_ | with_reducible refine ev_isiSeq ?_
  | with_reducible refine av_cons ?_ | with_reducible refine av_nil ?_
  | with_reducible refine ev_pure ?_ | with_reducible refine ev_gcd ?_ | with_reducible refine ev_abs ?_ | with_reducible refine ev_int1 ?_
  | (with_reducible refine DL.ev_len ?_; refine av_cons ?_; refine ev_v rfl ?_; refine bnd_ok ?_; refine av_nil ?_; refine ⟨_, _, _, rfl, by first | rfl | assumption, ?_⟩)
  | with_reducible refine ev_fldD ?_ | with_reducible refine ev_ixS ?_
  | with_reducible refine sv_seq ?_ | with_reducible refine sv_next ?_ | with_reducible refine sv_brk ?_ | with_reducible refine sv_cont ?_ | with_reducible refine sv_ret ?_ | with_reducible refine sv_retN ?_ | with_reducible refine sv_if ?_ | with_reducible refine sv_drop ?_
  | with_reducible refine sv_asg ?_
  | refine ⟨_, rfl, fun hb => ?_, fun hb => ?_⟩
  | refine ⟨_, _, rfl, rfl, fun hb => ?_, fun hb => ?_⟩
  | refine ⟨_, _, rfl, rfl, ?_⟩
  | refine ⟨_, _, _, _, rfl, rfl, rfl, ?_⟩
  | refine ⟨_, rfl, ?_⟩ | refine ⟨_, _, rfl, ?_⟩
  | refine And.intro rfl ?_ | refine And.intro (Nat.le_of_ble_eq_true rfl) ?_ | refine And.intro (by assumption) ?_)
local macro_rules | `(tactic| walk_at "dls") => `(tactic| repeat (walk_at "dl"; all_goals try (first | (exact (nomatch ‹false = true›)) | (exact (nomatch ‹true = false›)))))
local macro_rules | `(tactic| walk_at "dla") => `(tactic| repeat' (first | (exact (nomatch ‹false = true›)) | (exact (nomatch ‹true = false›)) | walk_at "dl"))
local macro_rules | `(tactic| walk_at "dlr") => `(tactic| (refine ret_rt (pms_d _ _ (Nat.le_of_ble_eq_true rfl)) ?_))
local macro_rules | `(tactic| walk_at "dlt") => `(tactic| first | walk_at "dl" | with_reducible refine ev_tup2 ?_ | with_reducible refine ev_tup3 ?_)
local macro_rules | `(tactic| walk_at "dlts") => `(tactic| repeat walk_at "dlt")
section
variable {P : Program} {w : World} {K : PySem.W.Frag} [HasTabs K] {mg : Str → Option Value} {base : Heap} {CH CD : Addr}
abbrev s_check_story : Stmt := topS 24
abbrev N_check_story : List Str := ["hands", "value"]
theorem sc_check_story : FnScope N_check_story ["hands", "value"] (defScope s_check_story) := ⟨rfl, rfl, rfl, by decide +kernel, rfl, by decide +kernel, by decide +kernel⟩
def R_check_story (CH : Addr) : List Dat → Dat → Prop := fun ds d => ∃ (ms : List Int) (y : Dat) (t : Bool) (hs : List Int), ds = [hObj CH ms, y] ∧ y.tyn.isSome = true ∧ y.seq = some (t, hs.map Dat.int) ∧ hs.length ≤ 10000 ∧ (∀ h ∈ hs, 0 ≤ h ∧ h < ms.length) ∧ d = .tup (hs.map Dat.int)
theorem ok_check_story (T : Txt mg) (LH : ClHands K CH) (O_check_items : Ok P w K mg base 3 "check_items" ["value", "bound"] (pureR R_check_items)) (F : Dfn K mg "check_story" "check_story" s_check_story ["hands", "value"]) : Ok P w K mg base 4 "check_story" ["hands", "value"] (pureR (R_check_story CH)) := by
  refine F.ok sc_check_story (by decide) (fun os Pp h => ?_) pureR_noex (fun f cdv A outer s H E hr => ⟨_, (pss_one (ps_ret (pe_fn O_check_items ⟨rfl, rfl, rfl, rfl, rfl⟩ (hr.mono (by decide)) rfl (pa_cons (pv 1) (pa_cons (pe_fldK (K := K) rfl (pv 0) rfl) pa_nil))))), fun os Pp h => ?_⟩)
  · obtain ⟨ds, d, rfl, ⟨ms, y, t, hs, rfl, hx, hy, hl, hb, rfl⟩, q⟩ := h
    rfl
  · obtain ⟨ds, d, rfl, ⟨ms, y, t, hs, rfl, hx, hy, hl, hb, rfl⟩, q⟩ := h
    show SvP K E0 _ [some (.d (hObj CH ms)), some (.d y)] _
    refine sv_ret ?_
    refine ev_pure ?_
    refine av_cons (ev_v rfl (bnd_ok (av_cons (ev_fldD (ev_v rfl (bnd_ok ⟨_, _, _, rfl, LH.c, LH.n, rfl, ?_⟩))))))
    refine bnd_ok (av_nil ?_)
    refine ⟨[y, .int ms.length], _, rfl, ⟨_, y, t, hs, rfl, hx, hy, hl, hb, rfl⟩, ?_⟩
    refine bndS_ok ?_
    walk_at "dlr"
    exact q

end
end K02

namespace K02
open PySem L2 Evl DL
local macro_rules | `(tactic| walk_at "dl") => `(tactic| first
  | with_reducible refine bnd_ok ?_ | with_reducible refine bndS_ok ?_ | with_reducible refine onE_ok ?_ | with_reducible refine seq_nx ?_ | with_reducible refine seq_rt ?_ | with_reducible refine seq_bk ?_ | with_reducible refine seq_ct ?_ | with_reducible refine onT_rt ?_ | with_reducible refine onT_bk ?_ | with_reducible refine resS_nx ?_ | with_reducible refine resS_rt ?_
  | refine ev_v rfl ?_ | refine ev_l rfl ?_ | with_reducible refine ev_i ?_ | with_reducible refine ev_n ?_ | with_reducible refine ev_b ?_ | with_reducible refine ev_s ?_
  | with_reducible refine ev_oZ0 ?_ | with_reducible refine ev_oB0 ?_ | with_reducible refine ev_oZ ?_ | with_reducible refine ev_neg ?_ | with_reducible refine ev_neI ?_ | with_reducible refine ev_eqI ?_ | with_reducible refine ev_isN ?_ | with_reducible refine ev_notN ?_ | with_reducible refine ev_chain ?_
  | with_reducible refine ev_andV ?_ | with_reducible refine ev_orV ?_ | with_reducible refine ev_notV ?_ | with_reducible refine ev_if ?_
  | with_reducible refine tv_test ?_ | with_reducible refine tv_B ?_ | with_reducible refine tv_and ?_ | with_reducible refine tv_or ?_ | with_reducible refine tv_not ?_ | with_reducible refine tv_yes ?_
  | with_reducible refine ev_isiInt ?_ | with_reducible refine ev_isiBool ?_ | with_reducible refine ev_isiSeq ?_
  | with_reducible refine av_cons ?_ | with_reducible refine av_nil ?_
  | with_reducible refine ev_pure ?_ | with_reducible refine ev_gcd ?_ | with_reducible refine ev_abs ?_ | with_reducible refine ev_int1 ?_
  | (with_reducible refine DL.ev_len ?_; refine av_cons ?_; refine ev_v rfl ?_; refine bnd_ok ?_; refine av_nil ?_; refine ⟨_, _, _, rfl, by first | rfl | assumption, ?_⟩)
  | with_reducible refine ev_fldD ?_ | with_reducible refine ev_ixS ?_
  | with_reducible refine sv_seq ?_ | with_reducible refine sv_next ?_ | with_reducible refine sv_brk ?_ | with_reducible refine sv_cont ?_ | with_reducible refine sv_ret ?_ | with_reducible refine sv_retN ?_ | with_reducible refine sv_if ?_ | with_reducible refine sv_drop ?_
  | with_reducible refine sv_asg ?_
  | refine ⟨_, rfl, fun hb => ?_, fun hb => ?_⟩
  | refine ⟨_, _, rfl, rfl, fun hb => ?_, fun hb => ?_⟩
  | refine ⟨_, _, rfl, rfl, ?_⟩
  | refine ⟨_, _, _, _, rfl, rfl, rfl, ?_⟩
  | refine ⟨_, rfl, ?_⟩ | refine ⟨_, _, rfl, ?_⟩
  | refine And.intro rfl ?_ | refine And.intro (Nat.le_of_ble_eq_true rfl) ?_ | refine And.intro (by assumption) ?_)
local macro_rules | `(tactic| walk_at "dls") => `(tactic| repeat (walk_at "dl"; all_goals try (first | (exact (nomatch ‹false = true›)) | (exact (nomatch ‹true = false›)))))
local macro_rules | `(tactic| walk_at "dla") => `(tactic| repeat' (first | (exact (nomatch ‹false = true›)) | (exact (nomatch ‹true = false›)) | walk_at "dl"))
local macro_rules | `(tactic| walk_at "dlr") => `(tactic| (refine ret_rt (pms_d _ _ (Nat.le_of_ble_eq_true rfl)) ?_))
local macro_rules | `(tactic| walk_at "dlt") => `(tactic| first | walk_at "dl" | with_reducible refine ev_tup2 ?_ | with_reducible refine ev_tup3 ?_)
local macro_rules | `(tactic| walk_at "dlts") => `(tactic| repeat walk_at "dlt")
section
variable {P : Program} {w : World} {K : PySem.W.Frag} [HasTabs K] {mg : Str → Option Value} {base : Heap} {CH CD : Addr}
abbrev s_laid_logs : Stmt := topS 31
abbrev N_laid_logs : List Str := ["hands", "story", "marks", "told", "logs", "hand", "mark"]
theorem sc_laid_logs : FnScope N_laid_logs ["hands", "story", "marks"] (defScope s_laid_logs) := ⟨rfl, rfl, rfl, by decide +kernel, rfl, by decide +kernel, by decide +kernel⟩
/-- marks along a story -/
structure Along (ms : List Int) (hs : List Nat) (ks : List Int) : Prop where
  g : Good ms
  len : ks.length = hs.length
  hb : ∀ h ∈ hs, h < ms.length
  kb : ∀ (u h : Nat) (k m : Int), hs[u]? = some h → ks[u]? = some k → ms[h]? = some m → 0 ≤ k ∧ k < m
theorem isBelow_int {k m : Int} (h : 0 ≤ k ∧ k < m) : isBelow (.int k) m = true := by
  show (decide (0 ≤ k) && decide (k < m)) = true
  rw [decide_eq_true h.1, decide_eq_true h.2]
  rfl
theorem Along.fits {ms : List Int} {hs : List Nat} {ks : List Int} (A : Along ms hs ks) : fitsL (ks.map Dat.int) (hs.map fun h => ms.getD h 0) = true := by
  unfold fitsL
  rw [List.length_map, List.length_map, A.len, decide_eq_true rfl, Bool.true_and, List.all_eq_true]
  intro p hp
  obtain ⟨u, hu⟩ := List.getElem?_of_mem hp
  obtain ⟨a, b⟩ := p
  rw [List.getElem?_zip_eq_some] at hu
  obtain ⟨h1, h2⟩ := hu
  rw [List.getElem?_map] at h1 h2
  cases e1 : ks[u]? with
  | none => rw [e1] at h1; exact nomatch h1
  | some k =>
    cases e2 : hs[u]? with
    | none => rw [e2] at h2; exact nomatch h2
    | some h =>
      rw [e1] at h1
      rw [e2] at h2
      cases h1
      cases h2
      have hh := A.hb h (List.mem_of_getElem? e2)
      have e3 := List.getElem?_eq_getElem hh
      have := A.kb u h k _ e2 e1 e3
      have e4 : ms.getD h 0 = ms[h] := by rw [List.getD_eq_getElem?_getD, e3]; rfl
      show isBelow (.int k) (ms.getD h 0) = true
      rw [e4]
      exact isBelow_int this
def R_laid_logs (CH : Addr) : List Dat → Dat → Prop := fun ds d => ∃ (ms : List Int) (y : Dat) (t : Bool) (hs : List Nat) (mk : Dat) (t2 : Bool) (ks : List Int), ds = [hObj CH ms, y, mk] ∧ y.tyn.isSome = true ∧ y.seq = some (t, hs.map fun (h : Nat) => Dat.int h) ∧ hs.length ≤ 10000 ∧ mk.tyn.isSome = true ∧ mk.seq = some (t2, ks.map Dat.int) ∧ Along ms hs ks ∧ d = .tup (rowsD (rowsP ms.length (hs.zip ks)))
theorem fitsB_seq2 {x : Dat} {t : Bool} {vs : List Dat} {bs : List Int} (h : x.seq = some (t, vs)) : fitsB x bs = fitsL vs bs := by
  cases x <;> first | (cases h; rfl) | (exact absurd h (by intro z; cases z))
theorem tynAll_ints {x : Dat} {t : Bool} {ks : List Int} (h : x.seq = some (t, ks.map Dat.int)) (hl : ks.length ≤ 100000) : tynAll x := by
  have key : ∀ v ∈ ks.map Dat.int, v.tyn.isSome = true := fun v hv => by
    obtain ⟨k, _, rfl⟩ := List.mem_map.mp hv
    rfl
  cases x with
  | lst xs =>
    have e : xs = ks.map Dat.int := (Prod.mk.inj (Option.some.inj h)).2
    subst e
    exact ⟨by rw [List.length_map]; exact hl, key⟩
  | tup xs =>
    have e : xs = ks.map Dat.int := (Prod.mk.inj (Option.some.inj h)).2
    subst e
    exact ⟨by rw [List.length_map]; exact hl, key⟩
  | _ => exact trivial
theorem ok_laid_logs (T : Txt mg) (LH : ClHands K CH) (O_check_story : Ok P w K mg base 4 "check_story" ["hands", "value"] (pureR (R_check_story CH))) (O_fits_bounds : Ok P w K mg base 3 "fits_bounds" ["value", "bounds"] (pureR R_fits_bounds)) (O_empty_logs : Ok P w K mg base 1 "empty_logs" ["hands"] (R_empty_logs CH)) (O_as_tuples : Ok P w K mg base 1 "as_tuples" ["rows"] (pureR R_as_tuples))
    (F : DfnK K mg "laid_logs" "laid_logs" s_laid_logs ["hands", "story", "marks"]) : Ok P w K mg base 5 "laid_logs" ["hands", "story", "marks"] (pureR (R_laid_logs CH)) ∧ OkK P w K mg base 5 "laid_logs" ["hands", "story", "marks"] (pureR (R_laid_logs CH)) := by
  refine F.ok sc_laid_logs (by decide) (fun os Pp h => ?_) pureR_noex (fun f cdv A outer s H E hr => ⟨_, (pss_cons (ps_set (i := 3) sc_laid_logs.nd rfl (.inl rfl) (pe_fn O_check_story ⟨rfl, rfl, rfl, rfl, rfl⟩ (hr.mono (by decide)) rfl (pa_cons (pv 0) (pa_cons (pv 1) pa_nil)))) (pss_cons (ps_if (pt_not (pt_val (pe_fn O_fits_bounds ⟨rfl, rfl, rfl, rfl, rfl⟩ (hr.mono (by decide)) rfl (pa_cons (pv 2) (pa_cons (pe_lc (own := [("hand", 5)]) (g := gName 5) (tt := tYes) rfl sc_laid_logs.nd (pi_anyK (K := K) rfl (pv 3)) (blkOk_by (own := [("hand", 5)]) (N := N_laid_logs) (sc := defScope s_laid_logs) (by decide +kernel)) (fun _ _ _ _ _ => (pg_name (i := 5) sc_laid_logs.nd rfl (.inl rfl))) (fun _ _ _ _ _ => pts_nil) (fun _ _ _ _ _ => (pe_ix (r := rIx K) ix_seq (pe_fldK (K := K) rfl (pv 0) rfl) (pv 5) (fun _ _ => rfl)))) pa_nil))))) (pss_one ps_never) pss_nil) (pss_cons (ps_set (i := 4) sc_laid_logs.nd rfl (.inl rfl) (pe_fn O_empty_logs ⟨rfl, rfl, rfl, rfl, rfl⟩ (hr.mono (by decide)) rfl (pa_cons (pv 0) pa_nil))) (pss_cons (ps_for PassesOwn.never rfl (pi_zipK (K := K) rfl (by rfl) T.b_zip (pa_cons (pv 3) (pa_cons (pv 2) pa_nil))) (pg_tup rfl (pgs_cons (pg_name (i := 5) sc_laid_logs.nd rfl (.inl rfl)) (pgs_cons (pg_name (i := 6) sc_laid_logs.nd rfl (.inl rfl)) pgs_nil))) (pss_one (ps_expr (pe_bmK (K := K) rfl PySem.F.plainAttrs_list PySem.F.slot_list_append PySem.F.type_list_append mt_append (pe_ix (r := rIxL K) ix_list (pv 4) (pv 5) (fun _ _ => rfl)) (pa_cons (pv 6) pa_nil))))) (pss_one (ps_ret (pe_fn O_as_tuples ⟨rfl, rfl, rfl, rfl, rfl⟩ (hr.mono (by decide)) rfl (pa_cons (pv 4) pa_nil)))))))), fun os Pp h => ?_⟩)
  · obtain ⟨ds, d, rfl, ⟨ms, y, t, hs, mk, t2, ks, rfl, hx, hy, hl, hm, hk, hA, rfl⟩, q⟩ := h
    rfl
  · obtain ⟨ds, d, rfl, ⟨ms, y, t, hs, mk, t2, ks, rfl, hx, hy, hl, hm, hk, hA, rfl⟩, q⟩ := h
    have hg := hA.g
    have hkl := hA.len
    have hy2 : y.seq = some (t, (hs.map fun (h : Nat) => (h : Int)).map Dat.int) := by rw [hy, List.map_map]; rfl
    show SvP K E0 _ [some (.d (hObj CH ms)), some (.d y), some (.d mk), none, none, none, none] _
    walk_at "dls"
    refine ⟨[hObj CH ms, y], _, rfl, ⟨ms, y, t, _, rfl, hx, hy2, by rw [List.length_map]; exact hl, fun h hh => ?_, rfl⟩, ?_⟩
    · obtain ⟨k, hk, rfl⟩ := List.mem_map.mp hh
      have := hA.hb k hk
      omega
    walk_at "dls"
    refine ev_lcM (ws := [5]) (fun h : Nat => .int (h : Int)) (fun h : Nat => .int (ms.getD h 0)) (by decide) ?_
    refine iv_any ?_
    refine ev_v rfl (bnd_ok ⟨_, _, _, rfl, rfl, hs, by rw [List.map_map]; rfl, by omega, fun h hh => ?_, ?_⟩)
    · refine gv_name (Nat.le_of_ble_eq_true rfl) ⟨rfl, ?_⟩
      have hlt := hA.hb h hh
      walk_at "dls"
      refine ⟨_, _, _, rfl, LH.c, LH.m, rfl, ?_⟩
      walk_at "dls"
      refine ⟨_, _, _, _, .int (ms.getD h 0), rfl, rfl, rfl, atD_nat (by rw [List.getElem?_map, List.getElem?_eq_getElem hlt, List.getD_eq_getElem?_getD, List.getElem?_eq_getElem hlt]; rfl), ?_⟩
      exact onE_ok ⟨rfl, rfl⟩
    refine bnd_ok (av_nil ?_)
    have hfit : fitsB mk (hs.map fun h => ms.getD h 0) = true := by rw [fitsB_seq2 hk]; exact hA.fits
    refine ⟨[mk, .lst (hs.map fun h => .int (ms.getD h 0))], _, rfl, ⟨mk, _, false, hs.map fun h => ms.getD h 0, rfl, hm, tynAll_ints hk (by omega), by rw [List.map_map]; rfl, rfl⟩, ?_⟩
    rw [hfit]
    walk_at "dls"
    refine ev_call ?_
    walk_at "dls"
    refine ⟨by have := hg.2.1; omega, fun a ro hro => ?_⟩
    walk_at "dls"
    refine sv_for (ws := [5] ++ ([6] ++ [])) ?_
    refine iv_zip ?_
    walk_at "dls"
    refine ⟨_, _, _, _, _, _, rfl, rfl, hk, ?_⟩
    refine loop_inv (fun i ρ' => ∃ ro u v, RowsOw (rowsP ms.length ((hs.zip ks).take i)) ro ∧ ρ' = [some (.d (hObj CH ms)), some (.d y), some (.d mk), some (.d (.tup ((hs.map fun (h : Nat) => (h : Int)).map Dat.int))), some (.l a ro), u, v]) ⟨ro, _, _, by rw [List.take_zero, rowsP_nil]; exact .ofEmpty hro, rfl⟩ (fun i d ρ' hi he => ?_) (fun ρ' he => ?_)
    · obtain ⟨ro, u, v, hr1, rfl⟩ := he
      obtain ⟨h, k, hh, hk1, rfl⟩ : ∃ h k, hs[i]? = some h ∧ ks[i]? = some k ∧ d = .tup [.int (h : Int), .int k] := by
        have e : zipD ((hs.map fun (h : Nat) => (h : Int)).map Dat.int) (ks.map Dat.int) = (hs.zip ks).map fun p => .tup [.int (p.1 : Int), .int p.2] := by
          rw [zipD_emb, List.zip_map_left, List.zip_map_left, List.map_map, List.map_map]
          rfl
        rw [e, List.getElem?_map] at hi
        cases hx2 : (hs.zip ks)[i]? with
        | none => rw [hx2] at hi; cases hi
        | some p =>
          rw [hx2] at hi
          obtain ⟨p1, p2⟩ := p
          obtain ⟨h1, h2⟩ := List.getElem?_zip_eq_some.mp hx2
          exact ⟨p1, p2, h1, h2, (Option.some.inj hi).symm⟩
      have hlt := hA.hb h (List.mem_of_getElem? hh)
      have et : (hs.zip ks).take (i + 1) = (hs.zip ks).take i ++ [(h, k)] := by
        rw [List.take_add_one, (List.getElem?_zip_eq_some (z := (h, k))).mpr ⟨hh, hk1⟩]
        rfl
      rw [et, rowsP_snoc _ _ hlt]
      obtain ⟨b1, hb1⟩ := hr1.get (rowsP_get _ hlt)
      have hrl : (rowOf ((hs.zip ks).take i) h).length ≤ 10000 := by
        rw [rowOf_len]
        refine Nat.le_trans List.count_le_length ?_
        rw [List.length_map, List.length_take, List.length_zip]
        omega
      refine gv_tup rfl (gs_cons (gv_name (Nat.le_of_ble_eq_true rfl) (gs_cons (gv_name (Nat.le_of_ble_eq_true rfl) (gs_nil ?_)))))
      walk_at "dls"
      refine ev_app2 ⟨a, ro, rfl⟩ ?_
      walk_at "dls"
      refine ⟨a, b1, ro, _, h, rfl, rfl, hb1, by rw [List.length_map, List.length_map]; omega, ?_⟩
      walk_at "dls"
      refine onT_nx (Wk.refl _) ?_
      refine ⟨ro.set h (.l b1 (((rowOf ((hs.zip ks).take i) h ++ [k]).map Dat.int).map Ow.d)), some (.d (.int (h : Int))), some (.d (.int k)), hr1.set _ b1 h, ?_⟩
      rw [List.map_append, List.map_append]
      rfl
    · obtain ⟨ro, u, v, hr1, rfl⟩ := he
      rw [zipD_emb, List.length_map, List.length_zip, List.length_map, List.length_map, hkl, Nat.min_self, List.take_of_length_le (by rw [List.length_zip]; omega)] at hr1
      refine resS_nx (seq_nx ?_)
      refine sv_ret ?_
      refine ev_pure (av_cons (ev_lF rfl hr1.okR.1 ?_))
      refine bnd_ok (av_nil ?_)
      rw [hr1.okR.2]
      refine ⟨[.lst _], _, rfl, ⟨_, false, _, rfl, rfl, ?_, fun r hr3 => ?_, rfl⟩, ?_⟩
      · rw [List.length_map, rowsP_len]
        have := hg.2.1
        omega
      · obtain ⟨z, _, rfl⟩ := List.mem_map.mp hr3
        exact ⟨_, _, rfl⟩
      · refine bndS_ok (ret_rt (pms_d [hObj CH ms, y, mk] _ (Nat.le_of_ble_eq_true rfl)) ?_)
        rw [List.map_map]
        exact q

end
end K02

namespace K02
open PySem L2 Evl DL
local macro_rules | `(tactic| walk_at "dl") => `(tactic| first
  | with_reducible refine bnd_ok ?_ | with_reducible refine bndS_ok ?_ | with_reducible refine onE_ok ?_ | with_reducible refine seq_nx ?_ | with_reducible refine seq_rt ?_ | with_reducible refine seq_bk ?_ | with_reducible refine seq_ct ?_ | with_reducible refine onT_rt ?_ | with_reducible refine onT_bk ?_ | with_reducible refine resS_nx ?_ | with_reducible refine resS_rt ?_
  | refine ev_v rfl ?_ | refine ev_l rfl ?_ | with_reducible refine ev_i ?_ | with_reducible refine ev_n ?_ | with_reducible refine ev_b ?_ | with_reducible refine ev_s ?_
  | with_reducible refine ev_oZ0 ?_ | with_reducible refine ev_oB0 ?_ | with_reducible refine ev_oZ ?_ | with_reducible refine ev_neg ?_ | with_reducible refine ev_neI ?_ | with_reducible refine ev_eqI ?_ | with_reducible refine ev_isN ?_ | with_reducible refine ev_notN ?_ | with_reducible refine ev_chain ?_
  | with_reducible refine ev_andV ?_ | with_reducible refine ev_orV ?_ | with_reducible refine ev_notV ?_ | with_reducible refine ev_if ?_
  | with_reducible refine tv_test ?_ | with_reducible refine tv_B ?_ | with_reducible refine tv_and ?_ | with_reducible refine tv_or ?_ | with_reducible refine tv_not ?_ | with_reducible refine tv_yes ?_
  | with_reducible refine ev_isiInt ?_ | with_reducible refine ev_isiBool ?_ | with_reducible refine ev_isiSeq ?_
  | with_reducible refine av_cons ?_ | with_reducible refine av_nil ?_
  | with_reducible refine ev_pure ?_ | with_reducible refine ev_gcd ?_ | with_reducible refine ev_abs ?_ | with_reducible refine ev_int1 ?_
  | (with_reducible refine DL.ev_len ?_; refine av_cons ?_; refine ev_v rfl ?_; refine bnd_ok ?_; refine av_nil ?_; refine ⟨_, _, _, rfl, by first | rfl | assumption, ?_⟩)
  | with_reducible refine ev_fldD ?_ | with_reducible refine ev_ixS ?_
  | with_reducible refine sv_seq ?_ | with_reducible refine sv_next ?_ | with_reducible refine sv_brk ?_ | with_reducible refine sv_cont ?_ | with_reducible refine sv_ret ?_ | with_reducible refine sv_retN ?_ | with_reducible refine sv_if ?_ | with_reducible refine sv_drop ?_
  | with_reducible refine sv_asg ?_
  | refine ⟨_, rfl, fun hb => ?_, fun hb => ?_⟩
  | refine ⟨_, _, rfl, rfl, fun hb => ?_, fun hb => ?_⟩
  | refine ⟨_, _, rfl, rfl, ?_⟩
  | refine ⟨_, _, _, _, rfl, rfl, rfl, ?_⟩
  | refine ⟨_, rfl, ?_⟩ | refine ⟨_, _, rfl, ?_⟩
  | refine And.intro rfl ?_ | refine And.intro (Nat.le_of_ble_eq_true rfl) ?_ | refine And.intro (by assumption) ?_)
local macro_rules | `(tactic| walk_at "dls") => `(tactic| repeat (walk_at "dl"; all_goals try (first | (exact (nomatch ‹false = true›)) | (exact (nomatch ‹true = false›)))))
local macro_rules | `(tactic| walk_at "dla") => `(tactic| repeat' (first | (exact (nomatch ‹false = true›)) | (exact (nomatch ‹true = false›)) | walk_at "dl"))
local macro_rules | `(tactic| walk_at "dlr") => `(tactic| (refine ret_rt (pms_d _ _ (Nat.le_of_ble_eq_true rfl)) ?_))
local macro_rules | `(tactic| walk_at "dlt") => `(tactic| first | walk_at "dl" | with_reducible refine ev_tup2 ?_ | with_reducible refine ev_tup3 ?_)
local macro_rules | `(tactic| walk_at "dlts") => `(tactic| repeat walk_at "dlt")
section
variable {P : Program} {w : World} {K : PySem.W.Frag} [HasTabs K] {mg : Str → Option Value} {base : Heap} {CH CD : Addr}
/-- the first wrong item -/
def Bent (xs : List Dat) (m0 : Int) (j : Nat) : Prop := (∀ i x, i < j → xs[i]? = some x → isBelow x m0 = true) ∧ ∃ x, xs[j]? = some x ∧ isBelow x m0 = false
def R_check_itemsX (CS : Addr) : Pr := fun os Pp => ∃ (m0 : Int) (y : Dat) (t : Bool) (xs : List Dat), os = [.d y, .d (.int m0)] ∧ y.tyn.isSome = true ∧ y.seq = some (t, xs) ∧ xs.length ≤ 10000 ∧ (∀ x ∈ xs, x.tyn.isSome = true) ∧
  (((∀ x ∈ xs, isBelow x m0 = true) ∧ Pp (.ok (.d (.tup xs))) os) ∨ ∃ j : Nat, Bent xs m0 j ∧ Pp (.ex CS [("at", .int j)]) os)
theorem okx_check_items (T : Txt mg) {CS : Addr} (ER_BadStory : ErrC P w K mg base "BadStory" CS ["at"]) (O_is_sequence : Ok P w K mg base 1 "is_sequence" ["value"] (pureR R_is_sequence)) (O_is_below : Ok P w K mg base 2 "is_below" ["value", "bound"] (pureR R_is_below)) (F : Dfn K mg "check_items" "check_items" s_check_items ["value", "bound"]) : OkX P w K mg base 3 "check_items" ["value", "bound"] (R_check_itemsX CS) := by
  refine F.okX sc_check_items (by decide) (fun os Pp h => ?_) (fun f cdv A outer s H E hr => ⟨_, (pss_cons (ps_if (PW.pt (pw_or (pt_not (pt_val (pe_fnE (E := E) O_is_sequence ⟨rfl, rfl, rfl, rfl, rfl⟩ (hr.mono (by decide)) rfl (pa_cons (pv 0) pa_nil)))) (pw_or1 (pt_cmpR op_gt (pe_callB (r := rLenQ K) call_len_seq (by rfl) T.b_len (by decide +kernel) (pa_cons (pv 0) pa_nil)) (pe_const T.c_LONGEST rfl) (nomark _))))) (pss_one (ps_raiseE ER_BadStory (takes_of rfl rfl rfl rfl) rfl ⟨rfl, rfl, rfl, rfl, rfl⟩ (hr.mono (by decide)) rfl (pa_cons (pe_un un_neg pe_int) pa_nil))) pss_nil) (pss_cons (ps_for (passes_of rfl) rfl (pi_enumK (K := K) rfl (by rfl) T.b_enumerate (pa_cons (pv 0) pa_nil)) (pg_tup rfl (pgs_cons (pg_name (i := 2) sc_check_items.nd rfl (.inl rfl)) (pgs_cons (pg_name (i := 3) sc_check_items.nd rfl (.inl rfl)) pgs_nil))) (pss_one (ps_if (pt_not (pt_val (pe_fnE (E := E) O_is_below ⟨rfl, rfl, rfl, rfl, rfl⟩ (hr.mono (by decide)) rfl (pa_cons (pv 3) (pa_cons (pv 1) pa_nil))))) (pss_one (ps_raiseE ER_BadStory (takes_of rfl rfl rfl rfl) rfl ⟨rfl, rfl, rfl, rfl, rfl⟩ (hr.mono (by decide)) rfl (pa_cons (pv 2) pa_nil))) pss_nil))) (pss_one (ps_ret (pe_callTy (r := rTupO K) call_tuple_of (by rfl) T.b_tuple (by decide +kernel) (pa_cons (pv 0) pa_nil)))))), fun os Pp h => ?_⟩)
  · obtain ⟨m0, y, t, xs, rfl, q⟩ := h
    rfl
  · obtain ⟨m0, y, t, xs, rfl, hx, hy, hl, ht, q⟩ := h
    show SvP K E _ [some (.d y), some (.d (.int m0)), none, none] _
    walk_at "dls"
    refine ⟨[y], _, rfl, ⟨y, rfl, hx, rfl⟩, ?_⟩
    walk_at "dls"
    · rename_i hb _
      rw [seq_isSeq hy] at hb
      exact nomatch hb
    · walk_at "dls"
      · rename_i hb2
        simp at hb2
        omega
      · walk_at "dls"
        refine sv_for (ws := [2] ++ ([3] ++ [])) ?_
        refine iv_enum ?_
        walk_at "dls"
        refine ⟨_, _, _, rfl, hy, ?_⟩
        refine loop_inv (fun i ρ' => (∀ j, Bent xs m0 j → i ≤ j) ∧ ∃ u v, ρ' = [some (.d y), some (.d (.int m0)), u, v]) ⟨fun _ _ => Nat.zero_le _, _, _, rfl⟩ (fun i d ρ' hi he => ?_) (fun ρ' he => ?_)
        · obtain ⟨hlow, u, v, rfl⟩ := he
          obtain ⟨x, hxi, rfl⟩ : ∃ x, xs[i]? = some x ∧ d = .tup [.int (i : Int), x] := by
            cases hm : xs[i]? with
            | none =>
              have : (enumD xs)[i]? = none := by
                rw [List.getElem?_eq_none_iff] at hm ⊢
                rw [enumD_len]
                exact hm
              rw [this] at hi
              cases hi
            | some z =>
              rw [enumD_get hm] at hi
              exact ⟨z, rfl, (Option.some.inj hi).symm⟩
          refine gv_tup rfl (gs_cons (gv_name (Nat.le_of_ble_eq_true rfl) (gs_cons (gv_name (Nat.le_of_ble_eq_true rfl) (gs_nil ?_)))))
          walk_at "dls"
          refine ⟨[x, .int m0], _, rfl, ⟨_, _, rfl, ht x (List.mem_of_getElem? hxi), rfl⟩, ?_⟩
          cases e : isBelow x m0 with
          | true =>
            walk_at "dls"
            refine onT_nx (Wk.refl _) ⟨fun j hj => ?_, _, _, rfl⟩
            have := hlow j hj
            rcases Nat.lt_or_ge i j with z | z
            · exact z
            · have z : j = i := by omega
              subst z
              obtain ⟨_, x', h1, h2⟩ := hj
              rw [hxi] at h1
              cases h1
              rw [e] at h2
              exact nomatch h2
          | false =>
            rcases q with ⟨hall, q⟩ | ⟨j, hj, q⟩
            · rw [hall x (List.mem_of_getElem? hxi)] at e
              exact nomatch e
            · have hji := hlow j hj
              have ej : j = i := by
                rcases Nat.lt_or_ge i j with z | z
                · have := hj.1 i x z hxi
                  rw [e] at this
                  exact nomatch this
                · omega
              subst ej
              walk_at "dls"
              refine sv_raise ER_BadStory.ox ER_BadStory.no ER_BadStory.few ?_
              walk_at "dls"
              exact ⟨[.int (j : Int)], rfl, rfl, _, pms_d [y, .int m0] _ (Nat.le_of_ble_eq_true rfl), q⟩
        · obtain ⟨hlow, u, v, rfl⟩ := he
          rcases q with ⟨hall, q⟩ | ⟨j, hj, q⟩
          · walk_at "dls"
            refine DL.ev_tupD ?_
            walk_at "dls"
            refine ⟨_, _, _, rfl, hy, ?_⟩
            walk_at "dls"
            exact ret_rt (pms_d [y, .int m0] _ (Nat.le_of_ble_eq_true rfl)) q
          · exfalso
            have := hlow j hj
            rw [enumD_len] at this
            obtain ⟨_, x, h1, _⟩ := hj
            have := (List.getElem?_eq_some_iff.mp h1).1
            omega

end
end K02

namespace K02
open PySem L2 Evl DL
local macro_rules | `(tactic| walk_at "dl") => `(tactic| first
  | with_reducible refine bnd_ok ?_ | with_reducible refine bndS_ok ?_ | with_reducible refine onE_ok ?_ | with_reducible refine seq_nx ?_ | with_reducible refine seq_rt ?_ | with_reducible refine seq_bk ?_ | with_reducible refine seq_ct ?_ | with_reducible refine onT_rt ?_ | with_reducible refine onT_bk ?_ | with_reducible refine resS_nx ?_ | with_reducible refine resS_rt ?_
  | refine ev_v rfl ?_ | refine ev_l rfl ?_ | with_reducible refine ev_i ?_ | with_reducible refine ev_n ?_ | with_reducible refine ev_b ?_ | with_reducible refine ev_s ?_
  | with_reducible refine ev_oZ0 ?_ | with_reducible refine ev_oB0 ?_ | with_reducible refine ev_oZ ?_ | with_reducible refine ev_neg ?_ | with_reducible refine ev_neI ?_ | with_reducible refine ev_eqI ?_ | with_reducible refine ev_isN ?_ | with_reducible refine ev_notN ?_ | with_reducible refine ev_chain ?_
  | with_reducible refine ev_andV ?_ | with_reducible refine ev_orV ?_ | with_reducible refine ev_notV ?_ | with_reducible refine ev_if ?_
  | with_reducible refine tv_test ?_ | with_reducible refine tv_B ?_ | with_reducible refine tv_and ?_ | with_reducible refine tv_or ?_ | with_reducible refine tv_not ?_ | with_reducible refine tv_yes ?_
  | with_reducible refine ev_isiInt ?_ | with_reducible refine ev_isiBool ?_ | with_reducible refine ev_isiSeq ?_
  | with_reducible refine av_cons ?_ | with_reducible refine av_nil ?_
  | with_reducible refine ev_pure ?_ | with_reducible refine ev_gcd ?_ | with_reducible refine ev_abs ?_ | with_reducible refine ev_int1 ?_
  | (with_reducible refine DL.ev_len ?_; refine av_cons ?_; refine ev_v rfl ?_; refine bnd_ok ?_; refine av_nil ?_; refine ⟨_, _, _, rfl, by first | rfl | assumption, ?_⟩)
  | with_reducible refine ev_fldD ?_ | with_reducible refine ev_ixS ?_
  | with_reducible refine sv_seq ?_ | with_reducible refine sv_next ?_ | with_reducible refine sv_brk ?_ | with_reducible refine sv_cont ?_ | with_reducible refine sv_ret ?_ | with_reducible refine sv_retN ?_ | with_reducible refine sv_if ?_ | with_reducible refine sv_drop ?_
  | with_reducible refine sv_asg ?_
  | refine ⟨_, rfl, fun hb => ?_, fun hb => ?_⟩
  | refine ⟨_, _, rfl, rfl, fun hb => ?_, fun hb => ?_⟩
  | refine ⟨_, _, rfl, rfl, ?_⟩
  | refine ⟨_, _, _, _, rfl, rfl, rfl, ?_⟩
  | refine ⟨_, rfl, ?_⟩ | refine ⟨_, _, rfl, ?_⟩
  | refine And.intro rfl ?_ | refine And.intro (Nat.le_of_ble_eq_true rfl) ?_ | refine And.intro (by assumption) ?_)
local macro_rules | `(tactic| walk_at "dls") => `(tactic| repeat (walk_at "dl"; all_goals try (first | (exact (nomatch ‹false = true›)) | (exact (nomatch ‹true = false›)))))
local macro_rules | `(tactic| walk_at "dla") => `(tactic| repeat' (first | (exact (nomatch ‹false = true›)) | (exact (nomatch ‹true = false›)) | walk_at "dl"))
local macro_rules | `(tactic| walk_at "dlr") => `(tactic| (refine ret_rt (pms_d _ _ (Nat.le_of_ble_eq_true rfl)) ?_))
local macro_rules | `(tactic| walk_at "dlt") => `(tactic| first | walk_at "dl" | with_reducible refine ev_tup2 ?_ | with_reducible refine ev_tup3 ?_)
local macro_rules | `(tactic| walk_at "dlts") => `(tactic| repeat walk_at "dlt")
section
variable {P : Program} {w : World} {K : PySem.W.Frag} [HasTabs K] {mg : Str → Option Value} {base : Heap} {CH CD : Addr}
def R_check_storyX (CH CS : Addr) : Pr := fun os Pp => ∃ (ms : List Int) (y : Dat) (t : Bool) (xs : List Dat), os = [.d (hObj CH ms), .d y] ∧ y.tyn.isSome = true ∧ y.seq = some (t, xs) ∧ xs.length ≤ 10000 ∧ (∀ x ∈ xs, x.tyn.isSome = true) ∧
  (((∀ x ∈ xs, isBelow x ms.length = true) ∧ Pp (.ok (.d (.tup xs))) os) ∨ ∃ j : Nat, Bent xs ms.length j ∧ Pp (.ex CS [("at", .int j)]) os)
theorem okx_check_story (T : Txt mg) (LH : ClHands K CH) {CS : Addr} (OX_check_items : OkX P w K mg base 3 "check_items" ["value", "bound"] (R_check_itemsX CS)) (F : Dfn K mg "check_story" "check_story" s_check_story ["hands", "value"]) : OkX P w K mg base 4 "check_story" ["hands", "value"] (R_check_storyX CH CS) := by
  refine F.okX sc_check_story (by decide) (fun os Pp h => ?_) (fun f cdv A outer s H E hr => ⟨_, (pss_one (ps_ret (pe_fnX (E := E) OX_check_items (takes_of rfl rfl rfl rfl) ⟨rfl, rfl, rfl, rfl, rfl⟩ (hr.mono (by decide)) rfl (pa_cons (pv 1) (pa_cons (pe_fldK (K := K) rfl (pv 0) rfl) pa_nil))))), fun os Pp h => ?_⟩)
  · obtain ⟨ms, y, t, xs, rfl, q⟩ := h
    rfl
  · obtain ⟨ms, y, t, xs, rfl, hx, hy, hl, ht, q⟩ := h
    have bk : ∀ (a b : Dat) (ρ : Rh), bks [Ow.d a, Ow.d b] ρ = ρ := fun a b ρ => rfl
    show SvP K E _ [some (.d (hObj CH ms)), some (.d y)] _
    refine sv_ret ?_
    refine ev_call (av_cons (ev_v rfl (bnd_ok (av_cons (ev_fldD (ev_v rfl (bnd_ok ⟨_, _, _, rfl, LH.c, LH.n, rfl, ?_⟩)))))))
    refine bnd_ok (av_nil ?_)
    refine ⟨ms.length, y, t, xs, rfl, hx, hy, hl, ht, ?_⟩
    rcases q with ⟨hall, q⟩ | ⟨j, hj, q⟩
    · refine .inl ⟨hall, ?_⟩
      show bndS _ _ (Re.ok _) (bks _ _)
      rw [bk]
      exact bndS_ok (ret_rt (pms_d [hObj CH ms, y] _ (Nat.le_of_ble_eq_true rfl)) q)
    · refine .inr ⟨j, hj, ?_⟩
      show bndS _ _ (Re.ex _ _) (bks _ _)
      rw [bk]
      exact ⟨_, pms_d [hObj CH ms, y] _ (Nat.le_of_ble_eq_true rfl), q⟩

end
end K02

namespace K02
open PySem L2 Evl DL
local macro_rules | `(tactic| walk_at "dl") => `(tactic| first
  | with_reducible refine bnd_ok ?_ | with_reducible refine bndS_ok ?_ | with_reducible refine onE_ok ?_ | with_reducible refine seq_nx ?_ | with_reducible refine seq_rt ?_ | with_reducible refine seq_bk ?_ | with_reducible refine seq_ct ?_ | with_reducible refine onT_rt ?_ | with_reducible refine onT_bk ?_ | with_reducible refine resS_nx ?_ | with_reducible refine resS_rt ?_
  | refine ev_v rfl ?_ | refine ev_l rfl ?_ | with_reducible refine ev_i ?_ | with_reducible refine ev_n ?_ | with_reducible refine ev_b ?_ | with_reducible refine ev_s ?_
  | with_reducible refine ev_oZ0 ?_ | with_reducible refine ev_oB0 ?_ | with_reducible refine ev_oZ ?_ | with_reducible refine ev_neg ?_ | with_reducible refine ev_neI ?_ | with_reducible refine ev_eqI ?_ | with_reducible refine ev_isN ?_ | with_reducible refine ev_notN ?_ | with_reducible refine ev_chain ?_
  | with_reducible refine ev_andV ?_ | with_reducible refine ev_orV ?_ | with_reducible refine ev_notV ?_ | with_reducible refine ev_if ?_
  | with_reducible refine tv_test ?_ | with_reducible refine tv_B ?_ | with_reducible refine tv_and ?_ | with_reducible refine tv_or ?_ | with_reducible refine tv_not ?_ | with_reducible refine tv_yes ?_
  | with_reducible refine ev_isiInt ?_ | with_reducible refine ev_isiBool ?_ | with_reducible refine ev_isiSeq ?_
  | with_reducible refine av_cons ?_ | with_reducible refine av_nil ?_
  | with_reducible refine ev_pure ?_ | with_reducible refine ev_gcd ?_ | with_reducible refine ev_abs ?_ | with_reducible refine ev_int1 ?_
  | (with_reducible refine DL.ev_len ?_; refine av_cons ?_; refine ev_v rfl ?_; refine bnd_ok ?_; refine av_nil ?_; refine ⟨_, _, _, rfl, by first | rfl | assumption, ?_⟩)
  | with_reducible refine ev_fldD ?_ | with_reducible refine ev_ixS ?_
  | with_reducible refine sv_seq ?_ | with_reducible refine sv_next ?_ | with_reducible refine sv_brk ?_ | with_reducible refine sv_cont ?_ | with_reducible refine sv_ret ?_ | with_reducible refine sv_retN ?_ | with_reducible refine sv_if ?_ | with_reducible refine sv_drop ?_
  | with_reducible refine sv_asg ?_
  | refine ⟨_, rfl, fun hb => ?_, fun hb => ?_⟩
  | refine ⟨_, _, rfl, rfl, fun hb => ?_, fun hb => ?_⟩
  | refine ⟨_, _, rfl, rfl, ?_⟩
  | refine ⟨_, _, _, _, rfl, rfl, rfl, ?_⟩
  | refine ⟨_, rfl, ?_⟩ | refine ⟨_, _, rfl, ?_⟩
  | refine And.intro rfl ?_ | refine And.intro (Nat.le_of_ble_eq_true rfl) ?_ | refine And.intro (by assumption) ?_)
local macro_rules | `(tactic| walk_at "dls") => `(tactic| repeat (walk_at "dl"; all_goals try (first | (exact (nomatch ‹false = true›)) | (exact (nomatch ‹true = false›)))))
local macro_rules | `(tactic| walk_at "dla") => `(tactic| repeat' (first | (exact (nomatch ‹false = true›)) | (exact (nomatch ‹true = false›)) | walk_at "dl"))
local macro_rules | `(tactic| walk_at "dlr") => `(tactic| (refine ret_rt (pms_d _ _ (Nat.le_of_ble_eq_true rfl)) ?_))
local macro_rules | `(tactic| walk_at "dlt") => `(tactic| first | walk_at "dl" | with_reducible refine ev_tup2 ?_ | with_reducible refine ev_tup3 ?_)
local macro_rules | `(tactic| walk_at "dlts") => `(tactic| repeat walk_at "dlt")
section
variable {P : Program} {w : World} {K : PySem.W.Frag} [HasTabs K] {mg : Str → Option Value} {base : Heap} {CH CD : Addr}
def R_laid_logsX (CH CS CR : Addr) : Pr := fun os Pp => ∃ (ms : List Int) (y : Dat) (t : Bool) (xs : List Dat) (mk : Dat), os = [.d (hObj CH ms), .d y, .d mk] ∧ Good ms ∧ y.tyn.isSome = true ∧ y.seq = some (t, xs) ∧ xs.length ≤ 10000 ∧ (∀ x ∈ xs, x.tyn.isSome = true) ∧ mk.tyn.isSome = true ∧
  ((∃ j : Nat, Bent xs ms.length j ∧ Pp (.ex CS [("at", .int j)]) os) ∨ (∃ hs : List Nat, xs = (hs.map fun (h : Nat) => Dat.int h) ∧ (∀ h ∈ hs, h < ms.length) ∧ tynAll mk ∧ fitsB mk (hs.map fun h => ms.getD h 0) = false ∧ Pp (.ex CR [("at", mk)]) os))
theorem okx_laid_logs (T : Txt mg) (LH : ClHands K CH) {CS CR : Addr} (ER_Refused : ErrC P w K mg base "Refused" CR ["at"]) (OX_check_story : OkX P w K mg base 4 "check_story" ["hands", "value"] (R_check_storyX CH CS)) (O_fits_bounds : Ok P w K mg base 3 "fits_bounds" ["value", "bounds"] (pureR R_fits_bounds)) (O_empty_logs : Ok P w K mg base 1 "empty_logs" ["hands"] (R_empty_logs CH)) (O_as_tuples : Ok P w K mg base 1 "as_tuples" ["rows"] (pureR R_as_tuples))
    (F : DfnK K mg "laid_logs" "laid_logs" s_laid_logs ["hands", "story", "marks"]) : OkX P w K mg base 5 "laid_logs" ["hands", "story", "marks"] (R_laid_logsX CH CS CR) := by
  refine F.dfn.okX sc_laid_logs (by decide) (fun os Pp h => ?_) (fun f cdv A outer s H E hr => ⟨_, (pss_cons (ps_set (i := 3) sc_laid_logs.nd rfl (.inl rfl) (pe_fnX (E := E) OX_check_story (takes_of rfl rfl rfl rfl) ⟨rfl, rfl, rfl, rfl, rfl⟩ (hr.mono (by decide)) rfl (pa_cons (pv 0) (pa_cons (pv 1) pa_nil)))) (pss_cons (ps_if (pt_not (pt_val (pe_fnE (E := E) O_fits_bounds ⟨rfl, rfl, rfl, rfl, rfl⟩ (hr.mono (by decide)) rfl (pa_cons (pv 2) (pa_cons (pe_lc (own := [("hand", 5)]) (g := gName 5) (tt := tYes) rfl sc_laid_logs.nd (pi_anyK (K := K) rfl (pv 3)) (blkOk_by (own := [("hand", 5)]) (N := N_laid_logs) (sc := defScope s_laid_logs) (by decide +kernel)) (fun _ _ _ _ _ => (pg_name (i := 5) sc_laid_logs.nd rfl (.inl rfl))) (fun _ _ _ _ _ => pts_nil) (fun _ _ _ _ _ => (pe_ix (r := rIx K) ix_seq (pe_fldK (K := K) rfl (pv 0) rfl) (pv 5) (fun _ _ => rfl)))) pa_nil))))) (pss_one (ps_raiseE ER_Refused (takes_of rfl rfl rfl rfl) rfl ⟨rfl, rfl, rfl, rfl, rfl⟩ (hr.mono (by decide)) rfl (pa_cons (pv 2) pa_nil))) pss_nil) (pss_cons (ps_set (i := 4) sc_laid_logs.nd rfl (.inl rfl) (pe_fnE (E := E) O_empty_logs ⟨rfl, rfl, rfl, rfl, rfl⟩ (hr.mono (by decide)) rfl (pa_cons (pv 0) pa_nil))) (pss_cons (ps_for (passes_of rfl) rfl (pi_zipK (K := K) rfl (by rfl) T.b_zip (pa_cons (pv 3) (pa_cons (pv 2) pa_nil))) (pg_tup rfl (pgs_cons (pg_name (i := 5) sc_laid_logs.nd rfl (.inl rfl)) (pgs_cons (pg_name (i := 6) sc_laid_logs.nd rfl (.inl rfl)) pgs_nil))) (pss_one (ps_expr (pe_bmK (K := K) rfl PySem.F.plainAttrs_list PySem.F.slot_list_append PySem.F.type_list_append mt_append (pe_ix (r := rIxL K) ix_list (pv 4) (pv 5) (fun _ _ => rfl)) (pa_cons (pv 6) pa_nil))))) (pss_one (ps_ret (pe_fnE (E := E) O_as_tuples ⟨rfl, rfl, rfl, rfl, rfl⟩ (hr.mono (by decide)) rfl (pa_cons (pv 4) pa_nil)))))))), fun os Pp h => ?_⟩)
  · obtain ⟨ms, y, t, xs, mk, rfl, q⟩ := h
    rfl
  · obtain ⟨ms, y, t, xs, mk, rfl, hg, hx, hy, hl, ht, hm, q⟩ := h
    have bk : ∀ (a b : Dat) (ρ : Rh), bks [Ow.d a, Ow.d b] ρ = ρ := fun a b ρ => rfl
    show SvP K E _ [some (.d (hObj CH ms)), some (.d y), some (.d mk), none, none, none, none] _
    refine sv_seq (sv_asg ?_)
    refine ev_call (av_cons (ev_v rfl (bnd_ok (av_cons (ev_v rfl (bnd_ok (av_nil ?_)))))))
    refine ⟨ms, y, t, xs, rfl, hx, hy, hl, ht, ?_⟩
    rcases q with ⟨j, hj, q⟩ | ⟨hs, rfl, hb, hta, hfit, q⟩
    · refine .inr ⟨j, hj, ?_⟩
      show bndS _ _ (Re.ex _ _) (bks _ _)
      rw [bk]
      exact ⟨_, pms_d [hObj CH ms, y, mk] _ (Nat.le_of_ble_eq_true rfl), q⟩
    · refine .inl ⟨fun x hx2 => ?_, ?_⟩
      · obtain ⟨h, hh, rfl⟩ := List.mem_map.mp hx2
        exact isBelow_int ⟨by omega, by have := hb h hh; omega⟩
      show bndS _ _ (Re.ok _) (bks _ _)
      rw [bk]
      rw [List.length_map] at hl
      refine bndS_ok ⟨Nat.le_of_ble_eq_true rfl, seq_nx ?_⟩
      refine sv_seq (sv_if (tv_not (tv_B ?_)))
      refine ev_pure (av_cons (ev_v rfl (bnd_ok (av_cons ?_))))
      refine ev_lcM (ws := [5]) (fun h : Nat => .int (h : Int)) (fun h : Nat => .int (ms.getD h 0)) (by decide) ?_
      refine iv_any ?_
      refine ev_v rfl (bnd_ok ⟨_, _, _, rfl, rfl, hs, rfl, by omega, fun h hh => ?_, ?_⟩)
      · refine gv_name (Nat.le_of_ble_eq_true rfl) ⟨rfl, ?_⟩
        have hlt := hb h hh
        walk_at "dls"
        refine ⟨_, _, _, rfl, LH.c, LH.m, rfl, ?_⟩
        walk_at "dls"
        refine ⟨_, _, _, _, .int (ms.getD h 0), rfl, rfl, rfl, atD_nat (by rw [List.getElem?_map, List.getElem?_eq_getElem hlt, List.getD_eq_getElem?_getD, List.getElem?_eq_getElem hlt]; rfl), ?_⟩
        exact onE_ok ⟨rfl, rfl⟩
      refine bnd_ok (av_nil ?_)
      refine ⟨[mk, .lst (hs.map fun h => .int (ms.getD h 0))], _, rfl, ⟨mk, _, false, hs.map fun h => ms.getD h 0, rfl, hm, hta, by rw [List.map_map]; rfl, rfl⟩, ?_⟩
      rw [hfit]
      refine bnd_ok ⟨_, rfl, ?_⟩
      refine bnd_ok ⟨_, rfl, ?_⟩
      refine bndS_ok ⟨_, rfl, fun _ => ?_, fun hb => absurd hb (by decide)⟩
      refine sv_raise ER_Refused.ox ER_Refused.no ER_Refused.few ?_
      refine av_cons (ev_v rfl (bnd_ok (av_nil ⟨[mk], rfl, rfl, _, pms_d [hObj CH ms, y, mk] _ (Nat.le_of_ble_eq_true rfl), q⟩)))

end
end K02

namespace K02
open PySem L2 Evl DL
local macro_rules | `(tactic| walk_at "dl") => `(tactic| first
  | with_reducible refine bnd_ok ?_ | with_reducible refine bndS_ok ?_ | with_reducible refine onE_ok ?_ | with_reducible refine seq_nx ?_ | with_reducible refine seq_rt ?_ | with_reducible refine seq_bk ?_ | with_reducible refine seq_ct ?_ | with_reducible refine onT_rt ?_ | with_reducible refine onT_bk ?_ | with_reducible refine resS_nx ?_ | with_reducible refine resS_rt ?_
  | refine ev_v rfl ?_ | refine ev_l rfl ?_ | with_reducible refine ev_i ?_ | with_reducible refine ev_n ?_ | with_reducible refine ev_b ?_ | with_reducible refine ev_s ?_
  | with_reducible refine ev_oZ0 ?_ | with_reducible refine ev_oB0 ?_ | with_reducible refine ev_oZ ?_ | with_reducible refine ev_neg ?_ | with_reducible refine ev_neI ?_ | with_reducible refine ev_eqI ?_ | with_reducible refine ev_isN ?_ | with_reducible refine ev_notN ?_ | with_reducible refine ev_chain ?_
  | with_reducible refine ev_andV ?_ | with_reducible refine ev_orV ?_ | with_reducible refine ev_notV ?_ | with_reducible refine ev_if ?_
  | with_reducible refine tv_test ?_ | with_reducible refine tv_B ?_ | with_reducible refine tv_and ?_ | with_reducible refine tv_or ?_ | with_reducible refine tv_not ?_ | with_reducible refine tv_yes ?_
  | with_reducible refine ev_isiInt ?_ | with_reducible refine ev_isiBool ?_ | with_reducible refine ev_isiSeq ?_
  | with_reducible refine av_cons ?_ | with_reducible refine av_nil ?_
  | with_reducible refine ev_pure ?_ | with_reducible refine ev_gcd ?_ | with_reducible refine ev_abs ?_ | with_reducible refine ev_int1 ?_
  | (with_reducible refine DL.ev_len ?_; refine av_cons ?_; refine ev_v rfl ?_; refine bnd_ok ?_; refine av_nil ?_; refine ⟨_, _, _, rfl, by first | rfl | assumption, ?_⟩)
  | with_reducible refine ev_fldD ?_ | with_reducible refine ev_ixS ?_
  | with_reducible refine sv_seq ?_ | with_reducible refine sv_next ?_ | with_reducible refine sv_brk ?_ | with_reducible refine sv_cont ?_ | with_reducible refine sv_ret ?_ | with_reducible refine sv_retN ?_ | with_reducible refine sv_if ?_ | with_reducible refine sv_drop ?_
  | with_reducible refine sv_asg ?_
  | refine ⟨_, rfl, fun hb => ?_, fun hb => ?_⟩
  | refine ⟨_, _, rfl, rfl, fun hb => ?_, fun hb => ?_⟩
  | refine ⟨_, _, rfl, rfl, ?_⟩
  | refine ⟨_, _, _, _, rfl, rfl, rfl, ?_⟩
  | refine ⟨_, rfl, ?_⟩ | refine ⟨_, _, rfl, ?_⟩
  | refine And.intro rfl ?_ | refine And.intro (Nat.le_of_ble_eq_true rfl) ?_ | refine And.intro (by assumption) ?_)
local macro_rules | `(tactic| walk_at "dls") => `(tactic| repeat (walk_at "dl"; all_goals try (first | (exact (nomatch ‹false = true›)) | (exact (nomatch ‹true = false›)))))
local macro_rules | `(tactic| walk_at "dla") => `(tactic| repeat' (first | (exact (nomatch ‹false = true›)) | (exact (nomatch ‹true = false›)) | walk_at "dl"))
local macro_rules | `(tactic| walk_at "dlr") => `(tactic| (refine ret_rt (pms_d _ _ (Nat.le_of_ble_eq_true rfl)) ?_))
local macro_rules | `(tactic| walk_at "dlt") => `(tactic| first | walk_at "dl" | with_reducible refine ev_tup2 ?_ | with_reducible refine ev_tup3 ?_)
local macro_rules | `(tactic| walk_at "dlts") => `(tactic| repeat walk_at "dlt")
section
variable {P : Program} {w : World} {K : PySem.W.Frag} [HasTabs K] {mg : Str → Option Value} {base : Heap} {CH CD : Addr}
abbrev s_story_counts : Stmt := topS 30
abbrev N_story_counts : List Str := ["hands", "story", "counts", "hand"]
theorem sc_story_counts : FnScope N_story_counts ["hands", "story"] (defScope s_story_counts) := ⟨rfl, rfl, rfl, by decide +kernel, rfl, by decide +kernel, by decide +kernel⟩
def R_story_counts (CH : Addr) : List Dat → Dat → Prop := fun ds d => ∃ (ms : List Int) (y : Dat) (t : Bool) (hs : List Nat), ds = [hObj CH ms, y] ∧ Good ms ∧ y.tyn.isSome = true ∧ y.seq = some (t, hs.map fun (h : Nat) => Dat.int h) ∧ hs.length ≤ 10000 ∧ (∀ h ∈ hs, h < ms.length) ∧ d = .tup ((cntP ms.length hs).map Dat.int)
theorem ok_story_counts (T : Txt mg) (LH : ClHands K CH) (O_check_story : Ok P w K mg base 4 "check_story" ["hands", "value"] (pureR (R_check_story CH))) (F : Dfn K mg "story_counts" "story_counts" s_story_counts ["hands", "story"]) : Ok P w K mg base 5 "story_counts" ["hands", "story"] (pureR (R_story_counts CH)) := by
  refine F.ok sc_story_counts (by decide) (fun os Pp h => ?_) pureR_noex (fun f cdv A outer s H E hr => ⟨_, (pss_cons (ps_set (i := 2) sc_story_counts.nd rfl (.inl rfl) (pe_op op_rep (pe_lst (pa_cons pe_int pa_nil)) (pe_fldK (K := K) rfl (pv 0) rfl))) (pss_cons (ps_for PassesOwn.never rfl (pi_anyK (K := K) rfl (pe_fn O_check_story ⟨rfl, rfl, rfl, rfl, rfl⟩ (hr.mono (by decide)) rfl (pa_cons (pv 0) (pa_cons (pv 1) pa_nil)))) (pg_name (i := 3) sc_story_counts.nd rfl (.inl rfl)) (pss_one (ps_augS (pv 2) (pv 3) get_list pe_int ip_add set_list))) (pss_one (ps_ret (pe_callTy (r := rTupO K) call_tuple_of (by rfl) T.b_tuple (by decide +kernel) (pa_cons (pv 2) pa_nil)))))), fun os Pp h => ?_⟩)
  · obtain ⟨ds, d, rfl, ⟨ms, y, t, hs, rfl, hg, hx, hy, hl, hb, rfl⟩, q⟩ := h
    rfl
  · obtain ⟨ds, d, rfl, ⟨ms, y, t, hs, rfl, hg, hx, hy, hl, hb, rfl⟩, q⟩ := h
    have hy2 : y.seq = some (t, (hs.map fun (h : Nat) => (h : Int)).map Dat.int) := by rw [hy, List.map_map]; rfl
    show SvP K E0 _ [some (.d (hObj CH ms)), some (.d y), none, none] _
    refine sv_seq (sv_asg (ev_repO (DL.ev_lst (av_cons (ev_i (bnd_ok (av_nil ⟨[.int 0], rfl, Nat.le_of_ble_eq_true rfl, ?_⟩)))))))
    refine bnd_ok ?_
    refine ev_fldD (ev_v rfl (bnd_ok ⟨_, _, _, rfl, LH.c, LH.n, rfl, ?_⟩))
    have := hg.2.1
    refine bnd_ok ⟨_, _, rfl, rfl, by omega, by omega, fun b => ?_⟩
    refine bndS_ok ⟨Nat.le_of_ble_eq_true rfl, seq_nx ?_⟩
    rw [Int.toNat_natCast, show (List.replicate ms.length (Dat.int 0)) = (cntP ms.length []).map Dat.int by rw [cntP_nil, List.map_replicate]]
    refine sv_seq (sv_for (ws := [3]) ?_)
    refine iv_any ?_
    refine ev_pure (av_cons (ev_v rfl (bnd_ok (av_cons (ev_v rfl (bnd_ok (av_nil ?_)))))))
    refine ⟨[hObj CH ms, y], _, rfl, ⟨ms, y, t, _, rfl, hx, hy2, by rw [List.length_map]; exact hl, fun h hh => ?_, rfl⟩, ?_⟩
    · obtain ⟨k, hk, rfl⟩ := List.mem_map.mp hh
      have := hb k hk
      omega
    refine bnd_ok ⟨_, _, _, rfl, rfl, ?_⟩
    refine loop_inv (fun i ρ' => ∃ u, ρ' = [some (.d (hObj CH ms)), some (.d y), some (.l b (((cntP ms.length (hs.take i)).map Dat.int).map Ow.d)), u]) ⟨_, rfl⟩ (fun i d ρ' hi he => ?_) (fun ρ' he => ?_)
    · obtain ⟨u, rfl⟩ := he
      obtain ⟨h, hh, rfl⟩ : ∃ h, hs[i]? = some h ∧ d = .int (h : Int) := by
        rw [List.getElem?_map, List.getElem?_map] at hi
        cases hx2 : hs[i]? with
        | none => rw [hx2] at hi; cases hi
        | some h => rw [hx2] at hi; exact ⟨h, rfl, (Option.some.inj hi).symm⟩
      have hlt := hb h (List.mem_of_getElem? hh)
      have et : hs.take (i + 1) = hs.take i ++ [h] := by rw [List.take_add_one, hh]; rfl
      refine gv_name (Nat.le_of_ble_eq_true rfl) ?_
      refine sv_augS ⟨b, _, rfl⟩ ?_
      refine ev_v rfl (bndS_ok ⟨rfl, b, _, h, _, rfl, rfl, cntP_get _ hlt, ?_⟩)
      refine ev_i (bndS_ok ⟨rfl, 1, rfl, ?_⟩)
      rw [et, cntP_snoc _ hlt]
      refine onT_nx (Wk.refl _) ⟨_, rfl⟩
    · obtain ⟨u, rfl⟩ := he
      rw [List.length_map, List.length_map, List.take_length]
      refine resS_nx (seq_nx ?_)
      refine sv_ret ?_
      refine ev_tuple (av_cons (ev_lF rfl (okRs_map _) ?_))
      rw [dats_map]
      refine bnd_ok (av_nil ⟨_, _, _, rfl, .d rfl, ?_⟩)
      refine bndS_ok (ret_rt (pms_d [hObj CH ms, y] _ (Nat.le_of_ble_eq_true rfl)) ?_)
      exact q

end
end K02

namespace K02
open PySem L2 Evl DL
local macro_rules | `(tactic| walk_at "dl") => `(tactic| first
  | with_reducible refine bnd_ok ?_ | with_reducible refine bndS_ok ?_ | with_reducible refine onE_ok ?_ | with_reducible refine seq_nx ?_ | with_reducible refine seq_rt ?_ | with_reducible refine seq_bk ?_ | with_reducible refine seq_ct ?_ | with_reducible refine onT_rt ?_ | with_reducible refine onT_bk ?_ | with_reducible refine resS_nx ?_ | with_reducible refine resS_rt ?_
  | refine ev_v rfl ?_ | refine ev_l rfl ?_ | with_reducible refine ev_i ?_ | with_reducible refine ev_n ?_ | with_reducible refine ev_b ?_ | with_reducible refine ev_s ?_
  | with_reducible refine ev_oZ0 ?_ | with_reducible refine ev_oB0 ?_ | with_reducible refine ev_oZ ?_ | with_reducible refine ev_neg ?_ | with_reducible refine ev_neI ?_ | with_reducible refine ev_eqI ?_ | with_reducible refine ev_isN ?_ | with_reducible refine ev_notN ?_ | with_reducible refine ev_chain ?_
  | with_reducible refine ev_andV ?_ | with_reducible refine ev_orV ?_ | with_reducible refine ev_notV ?_ | with_reducible refine ev_if ?_
  | with_reducible refine tv_test ?_ | with_reducible refine tv_B ?_ | with_reducible refine tv_and ?_ | with_reducible refine tv_or ?_ | with_reducible refine tv_not ?_ | with_reducible refine tv_yes ?_
  | with_reducible refine ev_isiInt ?_ | with_reducible refine ev_isiBool ?_ | with_reducible refine ev_isiSeq ?_
  | with_reducible refine av_cons ?_ | with_reducible refine av_nil ?_
  | with_reducible refine ev_pure ?_ | with_reducible refine ev_gcd ?_ | with_reducible refine ev_abs ?_ | with_reducible refine ev_int1 ?_
  | (with_reducible refine DL.ev_len ?_; refine av_cons ?_; refine ev_v rfl ?_; refine bnd_ok ?_; refine av_nil ?_; refine ⟨_, _, _, rfl, by first | rfl | assumption, ?_⟩)
  | with_reducible refine ev_fldD ?_ | with_reducible refine ev_ixS ?_
  | with_reducible refine sv_seq ?_ | with_reducible refine sv_next ?_ | with_reducible refine sv_brk ?_ | with_reducible refine sv_cont ?_ | with_reducible refine sv_ret ?_ | with_reducible refine sv_retN ?_ | with_reducible refine sv_if ?_ | with_reducible refine sv_drop ?_
  | with_reducible refine sv_asg ?_
  | refine ⟨_, rfl, fun hb => ?_, fun hb => ?_⟩
  | refine ⟨_, _, rfl, rfl, fun hb => ?_, fun hb => ?_⟩
  | refine ⟨_, _, rfl, rfl, ?_⟩
  | refine ⟨_, _, _, _, rfl, rfl, rfl, ?_⟩
  | refine ⟨_, rfl, ?_⟩ | refine ⟨_, _, rfl, ?_⟩
  | refine And.intro rfl ?_ | refine And.intro (Nat.le_of_ble_eq_true rfl) ?_ | refine And.intro (by assumption) ?_)
local macro_rules | `(tactic| walk_at "dls") => `(tactic| repeat (walk_at "dl"; all_goals try (first | (exact (nomatch ‹false = true›)) | (exact (nomatch ‹true = false›)))))
local macro_rules | `(tactic| walk_at "dla") => `(tactic| repeat' (first | (exact (nomatch ‹false = true›)) | (exact (nomatch ‹true = false›)) | walk_at "dl"))
local macro_rules | `(tactic| walk_at "dlr") => `(tactic| (refine ret_rt (pms_d _ _ (Nat.le_of_ble_eq_true rfl)) ?_))
local macro_rules | `(tactic| walk_at "dlt") => `(tactic| first | walk_at "dl" | with_reducible refine ev_tup2 ?_ | with_reducible refine ev_tup3 ?_)
local macro_rules | `(tactic| walk_at "dlts") => `(tactic| repeat walk_at "dlt")
section
variable {P : Program} {w : World} {K : PySem.W.Frag} [HasTabs K] {mg : Str → Option Value} {base : Heap} {CH CD : Addr}
abbrev s_marks_along : Stmt := topS 32
abbrev N_marks_along : List Str := ["hands", "story", "logs", "told", "rows", "read", "marks", "hand", "row"]
theorem sc_marks_along : FnScope N_marks_along ["hands", "story", "logs"] (defScope s_marks_along) := ⟨rfl, rfl, rfl, by decide +kernel, rfl, by decide +kernel, by decide +kernel⟩
def R_marks_along (CH : Addr) : List Dat → Dat → Prop := fun ds d => ∃ (ms : List Int) (y : Dat) (t : Bool) (hs : List Nat) (lg : Dat) (t2 : Bool) (rs : List Dat) (rows : List (List Int)), ds = [hObj CH ms, y, lg] ∧ Good ms ∧ y.tyn.isSome = true ∧ y.seq = some (t, hs.map fun (h : Nat) => Dat.int h) ∧ hs.length ≤ 10000 ∧ (∀ h ∈ hs, h < ms.length) ∧ lg.tyn.isSome = true ∧ lg.seq = some (t2, rs) ∧ LogsOk ms rs ∧ rs.map tupOf = rowsD rows ∧
  (∀ h r, rows[h]? = some r → hs.count h = r.length) ∧ d = .tup ((marksM rows hs).map Dat.int)
theorem lens_is {n : Nat} {rows : List (List Int)} {hs : List Nat} (hl : rows.length = n) (hc : ∀ h r, rows[h]? = some r → hs.count h = r.length) : (rows.map fun r => ((r.length : Nat) : Int)) = cntP n hs := by
  refine List.ext_getElem? fun j => ?_
  by_cases z : j < n
  · have hr := List.getElem?_eq_getElem (l := rows) (i := j) (by omega)
    rw [cntP_get _ z, List.getElem?_map, hr, hc j _ hr]
    rfl
  · rw [List.getElem?_eq_none (by rw [List.length_map]; omega), List.getElem?_eq_none (by rw [cntP_len]; omega)]
theorem ok_marks_along (T : Txt mg) (LH : ClHands K CH) (O_check_story : Ok P w K mg base 4 "check_story" ["hands", "value"] (pureR (R_check_story CH))) (O_check_logs : Ok P w K mg base 5 "check_logs" ["hands", "value"] (pureR (R_check_logs CH))) (O_story_counts : Ok P w K mg base 5 "story_counts" ["hands", "story"] (pureR (R_story_counts CH)))
    (F : DfnK K mg "marks_along" "marks_along" s_marks_along ["hands", "story", "logs"]) : Ok P w K mg base 6 "marks_along" ["hands", "story", "logs"] (pureR (R_marks_along CH)) ∧ OkK P w K mg base 6 "marks_along" ["hands", "story", "logs"] (pureR (R_marks_along CH)) := by
  refine F.ok sc_marks_along (by decide) (fun os Pp h => ?_) pureR_noex (fun f cdv A outer s H E hr => ⟨_, (pss_cons (ps_set (i := 3) sc_marks_along.nd rfl (.inl rfl) (pe_fn O_check_story ⟨rfl, rfl, rfl, rfl, rfl⟩ (hr.mono (by decide)) rfl (pa_cons (pv 0) (pa_cons (pv 1) pa_nil)))) (pss_cons (ps_set (i := 4) sc_marks_along.nd rfl (.inl rfl) (pe_fn O_check_logs ⟨rfl, rfl, rfl, rfl, rfl⟩ (hr.mono (by decide)) rfl (pa_cons (pv 0) (pa_cons (pv 2) pa_nil)))) (pss_cons (ps_if (pt_cmpR (r := rNeD K) (op_neD (units64 hr)) (pe_fn O_story_counts ⟨rfl, rfl, rfl, rfl, rfl⟩ (hr.mono (by decide)) rfl (pa_cons (pv 0) (pa_cons (pv 3) pa_nil))) (pe_callTy (r := rTupO K) call_tuple_of (by rfl) T.b_tuple (by decide +kernel) (pa_cons (pe_lc (own := [("row", 8)]) (g := gName 8) (tt := tYes) rfl sc_marks_along.nd (pi_anyK (K := K) rfl (pv 4)) (blkOk_by (own := [("row", 8)]) (N := N_marks_along) (sc := defScope s_marks_along) (by decide +kernel)) (fun _ _ _ _ _ => (pg_name (i := 8) sc_marks_along.nd rfl (.inl rfl))) (fun _ _ _ _ _ => pts_nil) (fun _ _ _ _ _ => (pe_callB (r := rLenQ K) call_len_seq (by rfl) T.b_len (by decide +kernel) (pa_cons (pv 8) pa_nil)))) pa_nil)) (nomark _)) (pss_one ps_never) pss_nil) (pss_cons (ps_set (i := 5) sc_marks_along.nd rfl (.inl rfl) (pe_op op_rep (pe_lst (pa_cons pe_int pa_nil)) (pe_fldK (K := K) rfl (pv 0) rfl))) (pss_cons (ps_set (i := 6) sc_marks_along.nd rfl (.inl rfl) (pe_lst pa_nil)) (pss_cons (ps_for PassesOwn.never rfl (pi_anyK (K := K) rfl (pv 3)) (pg_name (i := 7) sc_marks_along.nd rfl (.inl rfl)) (pss_cons (ps_expr (pe_bmK (K := K) rfl PySem.F.plainAttrs_list PySem.F.slot_list_append PySem.F.type_list_append mt_append (pv 6) (pa_cons (pe_ix (r := rIx K) ix_seq (pe_ix (r := rIx K) ix_seq (pv 4) (pv 7) (fun _ _ => rfl)) (pe_ix (r := rIxL K) ix_list (pv 5) (pv 7) (fun _ _ => rfl)) (fun _ _ => rfl)) pa_nil))) (pss_one (ps_augS (pv 5) (pv 7) get_list pe_int ip_add set_list)))) (pss_one (ps_ret (pe_callTy (r := rTupO K) call_tuple_of (by rfl) T.b_tuple (by decide +kernel) (pa_cons (pv 6) pa_nil)))))))))), fun os Pp h => ?_⟩)
  · obtain ⟨ds, d, rfl, ⟨ms, y, t, hs, lg, t2, rs, rows, rfl, hg, hx, hy, hl, hb, hlx, hly, hL, hrw, hc, rfl⟩, q⟩ := h
    rfl
  · obtain ⟨ds, d, rfl, ⟨ms, y, t, hs, lg, t2, rs, rows, rfl, hg, hx, hy, hl, hb, hlx, hly, hL, hrw, hc, rfl⟩, q⟩ := h
    have hy2 : y.seq = some (t, (hs.map fun (h : Nat) => (h : Int)).map Dat.int) := by rw [hy, List.map_map]; rfl
    have hrl : rows.length = ms.length := by
      have := congrArg List.length hrw
      rw [List.length_map, rowsD, List.length_map, hL.len] at this
      exact this.symm
    have hm8 := hg.2.1
    show SvP K E0 _ [some (.d (hObj CH ms)), some (.d y), some (.d lg), none, none, none, none, none, none] _
    walk_at "dls"
    refine ⟨[hObj CH ms, y], _, rfl, ⟨ms, y, t, _, rfl, hx, hy2, by rw [List.length_map]; exact hl, fun h hh => ?_, rfl⟩, ?_⟩
    · obtain ⟨k, hk, rfl⟩ := List.mem_map.mp hh
      have := hb k hk
      omega
    walk_at "dls"
    refine ⟨[hObj CH ms, lg], _, rfl, ⟨ms, lg, t2, rs, rfl, hg, hlx, hly, hL, rfl⟩, ?_⟩
    rw [hrw]
    walk_at "dls"
    refine ev_neD ?_
    refine ev_pure (av_cons (ev_v rfl (bnd_ok (av_cons (ev_v rfl (bnd_ok (av_nil ?_)))))))
    refine ⟨[hObj CH ms, .tup ((hs.map fun (h : Nat) => (h : Int)).map Dat.int)], _, rfl, ⟨ms, _, true, hs, rfl, hg, rfl, by rw [List.map_map]; rfl, hl, hb, rfl⟩, ?_⟩
    refine bnd_ok ?_
    refine DL.ev_tupD (av_cons ?_)
    refine ev_lcM (ws := [8]) (fun r : List Int => .tup (r.map Dat.int)) (fun r : List Int => .int ((r.length : Nat) : Int)) (by decide) ?_
    refine iv_any ?_
    refine ev_v rfl (bnd_ok ⟨_, _, _, rfl, rfl, rows, rfl, by omega, fun r hr2 => ?_, ?_⟩)
    · refine gv_name (Nat.le_of_ble_eq_true rfl) ⟨rfl, ?_⟩
      refine DL.ev_len (av_cons (ev_v rfl (bnd_ok (av_nil ⟨_, _, _, rfl, rfl, ?_⟩))))
      rw [List.length_map]
      exact onE_ok ⟨rfl, rfl⟩
    refine bnd_ok (av_nil ⟨_, _, _, rfl, rfl, ?_⟩)
    have hnice : Nice 1 (.tup ((cntP ms.length hs).map Dat.int)) := nice_tup (nice_map fun k _ => nice_int (n := 0) k)
    rw [show (rows.map fun r : List Int => Dat.int ((r.length : Nat) : Int)) = (cntP ms.length hs).map Dat.int by rw [← lens_is hrl hc, List.map_map]; rfl]
    refine bnd_ok ⟨_, _, true, rfl, rfl, hnice.two hnice (by decide) (by decide), hnice.same, ?_⟩
    refine bnd_ok ⟨_, rfl, ?_⟩
    refine bndS_ok ⟨_, rfl, fun hb => absurd hb (by decide), fun _ => ?_⟩
    refine sv_next (seq_nx ?_)
    refine sv_seq (sv_asg (ev_repO (DL.ev_lst (av_cons (ev_i (bnd_ok (av_nil ⟨[.int 0], rfl, Nat.le_of_ble_eq_true rfl, ?_⟩)))))))
    refine bnd_ok ?_
    refine ev_fldD (ev_v rfl (bnd_ok ⟨_, _, _, rfl, LH.c, LH.n, rfl, ?_⟩))
    refine bnd_ok ⟨_, _, rfl, rfl, by omega, by omega, fun b => ?_⟩
    refine bndS_ok ⟨Nat.le_of_ble_eq_true rfl, seq_nx ?_⟩
    rw [Int.toNat_natCast, show (List.replicate ms.length (Dat.int 0)) = (cntP ms.length []).map Dat.int by rw [cntP_nil, List.map_replicate]]
    refine sv_seq (sv_asg (ev_lsto (av_nil ⟨Nat.le_of_ble_eq_true rfl, fun mb => ?_⟩)))
    refine bndS_ok ⟨Nat.le_of_ble_eq_true rfl, seq_nx ?_⟩
    refine sv_seq (sv_for (ws := [7]) ?_)
    refine iv_any (ev_v rfl (bnd_ok ⟨_, _, _, rfl, rfl, ?_⟩))
    refine loop_inv (fun i ρ' => ∃ u, ρ' = [some (.d (hObj CH ms)), some (.d y), some (.d lg), some (.d (.tup ((hs.map fun (h : Nat) => (h : Int)).map Dat.int))), some (.d (.tup (rowsD rows))), some (.l b (((cntP ms.length (hs.take i)).map Dat.int).map Ow.d)), some (.l mb ((((List.range i).map (mkAt rows hs)).map Dat.int).map Ow.d)), u, none]) ⟨none, rfl⟩ (fun i d ρ' hi he => ?_) (fun ρ' he => ?_)
    · obtain ⟨u, rfl⟩ := he
      obtain ⟨h, hh, rfl⟩ : ∃ h, hs[i]? = some h ∧ d = .int (h : Int) := by
        rw [List.getElem?_map, List.getElem?_map] at hi
        cases hx2 : hs[i]? with
        | none => rw [hx2] at hi; cases hi
        | some h => rw [hx2] at hi; exact ⟨h, rfl, (Option.some.inj hi).symm⟩
      have hil : i < hs.length := (List.getElem?_eq_some_iff.mp hh).1
      have hlt := hb h (List.mem_of_getElem? hh)
      have et : hs.take (i + 1) = hs.take i ++ [h] := by rw [List.take_add_one, hh]; rfl
      have hrh := List.getElem?_eq_getElem (l := rows) (i := h) (by omega)
      have hat : atI (rowsD rows) (h : Int) = some (.tup ((rows[h]).map Dat.int)) := atD_nat (by rw [rowsD, List.getElem?_map, hrh]; rfl)
      have hgi : hs[i] = h := by rw [List.getElem?_eq_getElem hil] at hh; exact Option.some.inj hh
      have hct := count_take_lt hil
      rw [hgi, hc h _ hrh] at hct
      have hat2 : atI ((rows[h]).map Dat.int) (((hs.take i).count h : Nat) : Int) = some (.int (mkAt rows hs i)) := atD_nat (by
        rw [List.getElem?_map, List.getElem?_eq_getElem hct]
        unfold mkAt
        rw [getD_at hil, hgi, List.getD_eq_getElem?_getD (l := rows), hrh]
        show some (Dat.int _) = some (Dat.int (rows[h].getD _ 0))
        rw [getD_at hct])
      refine gv_name (Nat.le_of_ble_eq_true rfl) ?_
      refine sv_seq (sv_drop (ev_app ⟨mb, _, rfl, ?_⟩))
      refine ev_ixS (ev_ixS (ev_v rfl (bnd_ok (ev_v rfl (bnd_ok ⟨_, _, _, _, _, rfl, rfl, rfl, hat, ?_⟩)))))
      refine bnd_ok (ev_ixO (ev_v rfl (bnd_ok ⟨rfl, b, _, _, .int (((hs.take i).count h : Nat) : Int), rfl, rfl, atD_nat (by rw [List.getElem?_map, cntP_get _ hlt]; rfl), ?_⟩)) ⟨b, _, rfl⟩)
      refine bnd_ok ⟨_, _, _, _, _, rfl, rfl, rfl, hat2, ?_⟩
      refine bnd_ok ⟨_, rfl, by rw [List.length_map, List.length_map, List.length_map, List.length_range]; omega, ?_⟩
      refine bndS_ok (seq_nx ?_)
      refine sv_augS ⟨b, _, rfl⟩ ?_
      refine ev_v rfl (bndS_ok ⟨rfl, b, _, h, _, rfl, rfl, cntP_get _ hlt, ?_⟩)
      refine ev_i (bndS_ok ⟨rfl, 1, rfl, ?_⟩)
      rw [et, cntP_snoc _ hlt]
      refine onT_nx (Wk.refl _) ⟨some (.d (.int h)), ?_⟩
      rw [List.range_succ, List.map_append, List.map_append, List.map_append]
      rfl
    · obtain ⟨u, rfl⟩ := he
      rw [List.length_map, List.length_map, List.take_length]
      refine resS_nx (seq_nx ?_)
      refine sv_ret ?_
      refine ev_tuple (av_cons (ev_lF rfl (okRs_map _) ?_))
      rw [dats_map]
      refine bnd_ok (av_nil ⟨_, _, _, rfl, .d rfl, ?_⟩)
      refine bndS_ok (ret_rt (pms_d [hObj CH ms, y, lg] _ (Nat.le_of_ble_eq_true rfl)) ?_)
      exact q

end
end K02

namespace K02
open PySem L2 Evl DL
local macro_rules | `(tactic| walk_at "dl") => `(tactic| first
  | with_reducible refine bnd_ok ?_ | with_reducible refine bndS_ok ?_ | with_reducible refine onE_ok ?_ | with_reducible refine seq_nx ?_ | with_reducible refine seq_rt ?_ | with_reducible refine seq_bk ?_ | with_reducible refine seq_ct ?_ | with_reducible refine onT_rt ?_ | with_reducible refine onT_bk ?_ | with_reducible refine resS_nx ?_ | with_reducible refine resS_rt ?_
  | refine ev_v rfl ?_ | refine ev_l rfl ?_ | with_reducible refine ev_i ?_ | with_reducible refine ev_n ?_ | with_reducible refine ev_b ?_ | with_reducible refine ev_s ?_
  | with_reducible refine ev_oZ0 ?_ | with_reducible refine ev_oB0 ?_ | with_reducible refine ev_oZ ?_ | with_reducible refine ev_neg ?_ | with_reducible refine ev_neI ?_ | with_reducible refine ev_eqI ?_ | with_reducible refine ev_isN ?_ | with_reducible refine ev_notN ?_ | with_reducible refine ev_chain ?_
  | with_reducible refine ev_andV ?_ | with_reducible refine ev_orV ?_ | with_reducible refine ev_notV ?_ | with_reducible refine ev_if ?_
  | with_reducible refine tv_test ?_ | with_reducible refine tv_B ?_ | with_reducible refine tv_and ?_ | with_reducible refine tv_or ?_ | with_reducible refine tv_not ?_ | with_reducible refine tv_yes ?_
  | with_reducible refine ev_isiInt ?_ | with_reducible refine ev_isiBool ?_ | with_reducible refine ev_isiSeq ?_
  | with_reducible refine av_cons ?_ | with_reducible refine av_nil ?_
  | with_reducible refine ev_pure ?_ | with_reducible refine ev_gcd ?_ | with_reducible refine ev_abs ?_ | with_reducible refine ev_int1 ?_
  | (with_reducible refine DL.ev_len ?_; refine av_cons ?_; refine ev_v rfl ?_; refine bnd_ok ?_; refine av_nil ?_; refine ⟨_, _, _, rfl, by first | rfl | assumption, ?_⟩)
  | with_reducible refine ev_fldD ?_ | with_reducible refine ev_ixS ?_
  | with_reducible refine sv_seq ?_ | with_reducible refine sv_next ?_ | with_reducible refine sv_brk ?_ | with_reducible refine sv_cont ?_ | with_reducible refine sv_ret ?_ | with_reducible refine sv_retN ?_ | with_reducible refine sv_if ?_ | with_reducible refine sv_drop ?_
  | with_reducible refine sv_asg ?_
  | refine ⟨_, rfl, fun hb => ?_, fun hb => ?_⟩
  | refine ⟨_, _, rfl, rfl, fun hb => ?_, fun hb => ?_⟩
  | refine ⟨_, _, rfl, rfl, ?_⟩
  | refine ⟨_, _, _, _, rfl, rfl, rfl, ?_⟩
  | refine ⟨_, rfl, ?_⟩ | refine ⟨_, _, rfl, ?_⟩
  | refine And.intro rfl ?_ | refine And.intro (Nat.le_of_ble_eq_true rfl) ?_ | refine And.intro (by assumption) ?_)
local macro_rules | `(tactic| walk_at "dls") => `(tactic| repeat (walk_at "dl"; all_goals try (first | (exact (nomatch ‹false = true›)) | (exact (nomatch ‹true = false›)))))
local macro_rules | `(tactic| walk_at "dla") => `(tactic| repeat' (first | (exact (nomatch ‹false = true›)) | (exact (nomatch ‹true = false›)) | walk_at "dl"))
local macro_rules | `(tactic| walk_at "dlr") => `(tactic| (refine ret_rt (pms_d _ _ (Nat.le_of_ble_eq_true rfl)) ?_))
local macro_rules | `(tactic| walk_at "dlt") => `(tactic| first | walk_at "dl" | with_reducible refine ev_tup2 ?_ | with_reducible refine ev_tup3 ?_)
local macro_rules | `(tactic| walk_at "dlts") => `(tactic| repeat walk_at "dlt")
section
variable {P : Program} {w : World} {K : PySem.W.Frag} [HasTabs K] {mg : Str → Option Value} {base : Heap} {CH CD : Addr}
def R_check_logsX (CH CL : Addr) : Pr := fun os Pp => ∃ (ms : List Int) (y : Dat), os = [.d (hObj CH ms), .d y] ∧ Good ms ∧ y.tyn.isSome = true ∧
  ((∃ t rs, y.seq = some (t, rs) ∧ LogsOk ms rs ∧ Pp (.ok (.d (.tup (rs.map tupOf)))) os) ∨ ((∀ t rs, y.seq = some (t, rs) → rs.length ≠ ms.length) ∧ Pp (.ex CL [("at", .int (-1))]) os))
theorem okx_check_logs (T : Txt mg) (LH : ClHands K CH) {CL : Addr} (ER_BadLogs : ErrC P w K mg base "BadLogs" CL ["at"]) (O_is_sequence : Ok P w K mg base 1 "is_sequence" ["value"] (pureR R_is_sequence)) (O_is_log : Ok P w K mg base 4 "is_log" ["value", "marks"] (pureR R_is_log)) (O_as_tuples : Ok P w K mg base 1 "as_tuples" ["rows"] (pureR R_as_tuples)) (F : Dfn K mg "check_logs" "check_logs" s_check_logs ["hands", "value"]) : OkX P w K mg base 5 "check_logs" ["hands", "value"] (R_check_logsX CH CL) := by
  refine F.okX sc_check_logs (by decide) (fun os Pp h => ?_) (fun f cdv A outer s H E hr => ⟨_, (pss_cons (ps_if (PW.pt (pw_or (pt_not (pt_val (pe_fnE (E := E) O_is_sequence ⟨rfl, rfl, rfl, rfl, rfl⟩ (hr.mono (by decide)) rfl (pa_cons (pv 1) pa_nil)))) (pw_or1 (pt_cmpR op_ne (pe_callB (r := rLenQ K) call_len_seq (by rfl) T.b_len (by decide +kernel) (pa_cons (pv 1) pa_nil)) (pe_fldK (K := K) rfl (pv 0) rfl) (nomark _))))) (pss_one (ps_raiseE ER_BadLogs (takes_of rfl rfl rfl rfl) rfl ⟨rfl, rfl, rfl, rfl, rfl⟩ (hr.mono (by decide)) rfl (pa_cons (pe_un un_neg pe_int) pa_nil))) pss_nil) (pss_cons (ps_for (passes_of rfl) rfl (pi_enumK (K := K) rfl (by rfl) T.b_enumerate (pa_cons (pv 1) pa_nil)) (pg_tup rfl (pgs_cons (pg_name (i := 2) sc_check_logs.nd rfl (.inl rfl)) (pgs_cons (pg_name (i := 3) sc_check_logs.nd rfl (.inl rfl)) pgs_nil))) (pss_one (ps_if (pt_not (pt_val (pe_fnE (E := E) O_is_log ⟨rfl, rfl, rfl, rfl, rfl⟩ (hr.mono (by decide)) rfl (pa_cons (pv 3) (pa_cons (pe_ix (r := rIx K) ix_seq (pe_fldK (K := K) rfl (pv 0) rfl) (pv 2) (fun _ _ => rfl)) pa_nil))))) (pss_one (ps_raiseE ER_BadLogs (takes_of rfl rfl rfl rfl) rfl ⟨rfl, rfl, rfl, rfl, rfl⟩ (hr.mono (by decide)) rfl (pa_cons (pv 2) pa_nil))) pss_nil))) (pss_one (ps_ret (pe_fnE (E := E) O_as_tuples ⟨rfl, rfl, rfl, rfl, rfl⟩ (hr.mono (by decide)) rfl (pa_cons (pv 1) pa_nil)))))), fun os Pp h => ?_⟩)
  · obtain ⟨ms, y, rfl, q⟩ := h
    rfl
  · obtain ⟨ms, y, rfl, hg, hx, q⟩ := h
    show SvP K E _ [some (.d (hObj CH ms)), some (.d y), none, none] _
    walk_at "dls"
    refine ⟨[y], _, rfl, ⟨y, rfl, hx, rfl⟩, ?_⟩
    rcases q with ⟨t, rs, hy, hl, q⟩ | ⟨hne, q⟩
    · have hle : rs.length ≤ 8 := by rw [hl.len]; exact hg.2.1
      walk_at "dls"
      · rename_i hb _
        rw [seq_isSeq hy] at hb
        exact nomatch hb
      · walk_at "dls"
        refine ⟨_, _, _, rfl, LH.c, LH.n, rfl, ?_⟩
        walk_at "dls"
        · rename_i hb
          rw [hl.len] at hb
          simp at hb
        · walk_at "dls"
          refine sv_for (ws := [2] ++ ([3] ++ [])) ?_
          refine iv_enum ?_
          walk_at "dls"
          refine ⟨_, _, _, rfl, hy, ?_⟩
          refine loop_inv (fun i ρ' => ∃ u v, ρ' = [some (.d (hObj CH ms)), some (.d y), u, v]) ⟨_, _, rfl⟩ (fun i d ρ' hi he => ?_) (fun ρ' he => ?_)
          · obtain ⟨u, v, rfl⟩ := he
            have hd : ∃ r, rs[i]? = some r ∧ d = .tup [.int (i : Int), r] := by
              cases hm : rs[i]? with
              | none =>
                have : (enumD rs)[i]? = none := by
                  rw [List.getElem?_eq_none_iff] at hm ⊢
                  rw [enumD_len]
                  exact hm
                rw [this] at hi
                cases hi
              | some z =>
                rw [enumD_get hm] at hi
                exact ⟨z, rfl, (Option.some.inj hi).symm⟩
            obtain ⟨r, hr2, rfl⟩ := hd
            have hi2 : i < ms.length := by
              have := (List.getElem?_eq_some_iff.mp hr2).1
              rw [hl.len] at this
              exact this
            obtain ⟨hlog, ht, hz⟩ := hl.row i r ms[i] hr2 (List.getElem?_eq_getElem hi2)
            refine gv_tup rfl (gs_cons (gv_name (Nat.le_of_ble_eq_true rfl) (gs_cons (gv_name (Nat.le_of_ble_eq_true rfl) (gs_nil ?_)))))
            walk_at "dls"
            refine ⟨_, _, _, rfl, LH.c, LH.m, rfl, ?_⟩
            walk_at "dls"
            refine ⟨.tup (ms.map Dat.int), true, ms.map Dat.int, (i : Int), .int ms[i], rfl, rfl, rfl, ?_, ?_⟩
            · exact atD_nat (by rw [List.getElem?_map, List.getElem?_eq_getElem hi2]; rfl)
            · walk_at "dls"
              refine ⟨[r, .int ms[i]], _, rfl, ⟨r, _, rfl, ht, hz, rfl⟩, ?_⟩
              rw [hlog]
              walk_at "dls"
              exact onT_nx (Wk.refl _) ⟨_, _, rfl⟩
          · obtain ⟨u, v, rfl⟩ := he
            walk_at "dls"
            refine ⟨[y], _, rfl, ⟨y, t, rs, rfl, hy, by omega, fun r hr2 => ?_, rfl⟩, ?_⟩
            · obtain ⟨i, hi, rfl⟩ := List.getElem_of_mem hr2
              exact isLog_seq (hl.row i _ (ms[i]'(by rw [← hl.len]; exact hi)) (List.getElem?_eq_getElem hi) (List.getElem?_eq_getElem _)).1
            · walk_at "dls"
              exact ret_rt (pms_d [hObj CH ms, y] _ (Nat.le_of_ble_eq_true rfl)) q
    · have fin : ∀ k : Rh → Prop, SvP K E (DL.tRaise K CL ["at"] (tCons (tUn (rU fun i => V.int (-i)) (tC (V.int 1))) tNil) E) [some (.d (hObj CH ms)), some (.d y), none, none] (seqS k (retS [.d (hObj CH ms), .d y] Pp)) := by
        intro k
        refine sv_raise ER_BadLogs.ox ER_BadLogs.no ER_BadLogs.few ?_
        walk_at "dls"
        exact ⟨[.int (-1)], rfl, rfl, _, pms_d [hObj CH ms, y] _ (Nat.le_of_ble_eq_true rfl), q⟩
      cases hs : y.isSeq with
      | false =>
        walk_at "dls"
        exact fin _
      | true =>
        obtain ⟨t, rs, hy⟩ := seq_some hs
        have hn := hne t rs hy
        walk_at "dls"
        refine ⟨_, _, _, rfl, LH.c, LH.n, rfl, ?_⟩
        walk_at "dls"
        · exact fin _
        · rename_i hb
          exfalso
          revert hb
          simp
          omega

end
end K02

namespace K02
open PySem L2 Evl DL
local macro_rules | `(tactic| walk_at "dl") => `(tactic| first
  | with_reducible refine bnd_ok ?_ | with_reducible refine bndS_ok ?_ | with_reducible refine onE_ok ?_ | with_reducible refine seq_nx ?_ | with_reducible refine seq_rt ?_ | with_reducible refine seq_bk ?_ | with_reducible refine seq_ct ?_ | with_reducible refine onT_rt ?_ | with_reducible refine onT_bk ?_ | with_reducible refine resS_nx ?_ | with_reducible refine resS_rt ?_
  | refine ev_v rfl ?_ | refine ev_l rfl ?_ | with_reducible refine ev_i ?_ | with_reducible refine ev_n ?_ | with_reducible refine ev_b ?_ | with_reducible refine ev_s ?_
  | with_reducible refine ev_oZ0 ?_ | with_reducible refine ev_oB0 ?_ | with_reducible refine ev_oZ ?_ | with_reducible refine ev_neg ?_ | with_reducible refine ev_neI ?_ | with_reducible refine ev_eqI ?_ | with_reducible refine ev_isN ?_ | with_reducible refine ev_notN ?_ | with_reducible refine ev_chain ?_
  | with_reducible refine ev_andV ?_ | with_reducible refine ev_orV ?_ | with_reducible refine ev_notV ?_ | with_reducible refine ev_if ?_
  | with_reducible refine tv_test ?_ | with_reducible refine tv_B ?_ | with_reducible refine tv_and ?_ | with_reducible refine tv_or ?_ | with_reducible refine tv_not ?_ | with_reducible refine tv_yes ?_
  | with_reducible refine ev_isiInt ?_ | with_reducible refine ev_isiBool ?_ | with_reducible refine ev_isiSeq ?_
  | with_reducible refine av_cons ?_ | with_reducible refine av_nil ?_
  | with_reducible refine ev_pure ?_ | with_reducible refine ev_gcd ?_ | with_reducible refine ev_abs ?_ | with_reducible refine ev_int1 ?_
  | (with_reducible refine DL.ev_len ?_; refine av_cons ?_; refine ev_v rfl ?_; refine bnd_ok ?_; refine av_nil ?_; refine ⟨_, _, _, rfl, by first | rfl | assumption, ?_⟩)
  | with_reducible refine ev_fldD ?_ | with_reducible refine ev_ixS ?_
  | with_reducible refine sv_seq ?_ | with_reducible refine sv_next ?_ | with_reducible refine sv_brk ?_ | with_reducible refine sv_cont ?_ | with_reducible refine sv_ret ?_ | with_reducible refine sv_retN ?_ | with_reducible refine sv_if ?_ | with_reducible refine sv_drop ?_
  | with_reducible refine sv_asg ?_
  | refine ⟨_, rfl, fun hb => ?_, fun hb => ?_⟩
  | refine ⟨_, _, rfl, rfl, fun hb => ?_, fun hb => ?_⟩
  | refine ⟨_, _, rfl, rfl, ?_⟩
  | refine ⟨_, _, _, _, rfl, rfl, rfl, ?_⟩
  | refine ⟨_, rfl, ?_⟩ | refine ⟨_, _, rfl, ?_⟩
  | refine And.intro rfl ?_ | refine And.intro (Nat.le_of_ble_eq_true rfl) ?_ | refine And.intro (by assumption) ?_)
local macro_rules | `(tactic| walk_at "dls") => `(tactic| repeat (walk_at "dl"; all_goals try (first | (exact (nomatch ‹false = true›)) | (exact (nomatch ‹true = false›)))))
local macro_rules | `(tactic| walk_at "dla") => `(tactic| repeat' (first | (exact (nomatch ‹false = true›)) | (exact (nomatch ‹true = false›)) | walk_at "dl"))
local macro_rules | `(tactic| walk_at "dlr") => `(tactic| (refine ret_rt (pms_d _ _ (Nat.le_of_ble_eq_true rfl)) ?_))
local macro_rules | `(tactic| walk_at "dlt") => `(tactic| first | walk_at "dl" | with_reducible refine ev_tup2 ?_ | with_reducible refine ev_tup3 ?_)
local macro_rules | `(tactic| walk_at "dlts") => `(tactic| repeat walk_at "dlt")
section
variable {P : Program} {w : World} {K : PySem.W.Frag} [HasTabs K] {mg : Str → Option Value} {base : Heap} {CH CD : Addr}
def R_marks_alongX (CH CS CL CR : Addr) : Pr := fun os Pp => ∃ (ms : List Int) (y : Dat) (t : Bool) (xs : List Dat) (lg : Dat), os = [.d (hObj CH ms), .d y, .d lg] ∧ Good ms ∧ y.tyn.isSome = true ∧ y.seq = some (t, xs) ∧ xs.length ≤ 10000 ∧ (∀ x ∈ xs, x.tyn.isSome = true) ∧ lg.tyn.isSome = true ∧
  ((∃ j : Nat, Bent xs ms.length j ∧ Pp (.ex CS [("at", .int j)]) os) ∨ (∃ hs : List Nat, xs = (hs.map fun (h : Nat) => Dat.int h) ∧ (∀ h ∈ hs, h < ms.length) ∧
    (((∀ t2 rs, lg.seq = some (t2, rs) → rs.length ≠ ms.length) ∧ Pp (.ex CL [("at", .int (-1))]) os) ∨
      (∃ t2 rs rows, lg.seq = some (t2, rs) ∧ LogsOk ms rs ∧ rs.map tupOf = rowsD rows ∧ (rows.map fun r : List Int => ((r.length : Nat) : Int)) ≠ cntP ms.length hs ∧ Pp (.ex CR [("at", lg)]) os))))
theorem eqvs_ints : ∀ {a b : List Int}, PyData.eqvAll (pys (a.map Dat.int)) (pys (b.map Dat.int)) = decide (a = b)
  | [], [] => rfl
  | [], _ :: _ => rfl
  | _ :: _, [] => rfl
  | x :: a, y :: b => by
    show ((x == y) && PyData.eqvAll (pys (a.map Dat.int)) (pys (b.map Dat.int))) = _
    rw [eqvs_ints]
    by_cases h : x = y
    · subst h
      by_cases k : a = b
      · subst k
        simp
      · rw [decide_eq_false k, decide_eq_false (fun z => k (List.cons.inj z).2), Bool.and_false]
    · rw [show (x == y) = false by simpa using h, decide_eq_false (fun z => h (List.cons.inj z).1), Bool.false_and]
theorem eqv_ints {a b : List Int} : PyData.eqv (Dat.tup (a.map Dat.int)).py (Dat.tup (b.map Dat.int)).py = decide (a = b) := eqvs_ints
theorem okx_marks_along (T : Txt mg) (LH : ClHands K CH) {CS CL CR : Addr} (ER_Refused : ErrC P w K mg base "Refused" CR ["at"]) (OX_check_story : OkX P w K mg base 4 "check_story" ["hands", "value"] (R_check_storyX CH CS)) (OX_check_logs : OkX P w K mg base 5 "check_logs" ["hands", "value"] (R_check_logsX CH CL)) (O_story_counts : Ok P w K mg base 5 "story_counts" ["hands", "story"] (pureR (R_story_counts CH)))
    (F : DfnK K mg "marks_along" "marks_along" s_marks_along ["hands", "story", "logs"]) : OkX P w K mg base 6 "marks_along" ["hands", "story", "logs"] (R_marks_alongX CH CS CL CR) := by
  refine F.dfn.okX sc_marks_along (by decide) (fun os Pp h => ?_) (fun f cdv A outer s H E hr => ⟨_, (pss_cons (ps_set (i := 3) sc_marks_along.nd rfl (.inl rfl) (pe_fnX (E := E) OX_check_story (takes_of rfl rfl rfl rfl) ⟨rfl, rfl, rfl, rfl, rfl⟩ (hr.mono (by decide)) rfl (pa_cons (pv 0) (pa_cons (pv 1) pa_nil)))) (pss_cons (ps_set (i := 4) sc_marks_along.nd rfl (.inl rfl) (pe_fnX (E := E) OX_check_logs (takes_of rfl rfl rfl rfl) ⟨rfl, rfl, rfl, rfl, rfl⟩ (hr.mono (by decide)) rfl (pa_cons (pv 0) (pa_cons (pv 2) pa_nil)))) (pss_cons (ps_if (pt_cmpR (r := rNeD K) (op_neD (units64 hr)) (pe_fnE (E := E) O_story_counts ⟨rfl, rfl, rfl, rfl, rfl⟩ (hr.mono (by decide)) rfl (pa_cons (pv 0) (pa_cons (pv 3) pa_nil))) (pe_callTy (r := rTupO K) call_tuple_of (by rfl) T.b_tuple (by decide +kernel) (pa_cons (pe_lc (own := [("row", 8)]) (g := gName 8) (tt := tYes) rfl sc_marks_along.nd (pi_anyK (K := K) rfl (pv 4)) (blkOk_by (own := [("row", 8)]) (N := N_marks_along) (sc := defScope s_marks_along) (by decide +kernel)) (fun _ _ _ _ _ => (pg_name (i := 8) sc_marks_along.nd rfl (.inl rfl))) (fun _ _ _ _ _ => pts_nil) (fun _ _ _ _ _ => (pe_callB (r := rLenQ K) call_len_seq (by rfl) T.b_len (by decide +kernel) (pa_cons (pv 8) pa_nil)))) pa_nil)) (nomark _)) (pss_one (ps_raiseE ER_Refused (takes_of rfl rfl rfl rfl) rfl ⟨rfl, rfl, rfl, rfl, rfl⟩ (hr.mono (by decide)) rfl (pa_cons (pv 2) pa_nil))) pss_nil) (pss_cons (ps_set (i := 5) sc_marks_along.nd rfl (.inl rfl) (pe_op op_rep (pe_lst (pa_cons pe_int pa_nil)) (pe_fldK (K := K) rfl (pv 0) rfl))) (pss_cons (ps_set (i := 6) sc_marks_along.nd rfl (.inl rfl) (pe_lst pa_nil)) (pss_cons (ps_for (passes_of rfl) rfl (pi_anyK (K := K) rfl (pv 3)) (pg_name (i := 7) sc_marks_along.nd rfl (.inl rfl)) (pss_cons (ps_expr (pe_bmK (K := K) rfl PySem.F.plainAttrs_list PySem.F.slot_list_append PySem.F.type_list_append mt_append (pv 6) (pa_cons (pe_ix (r := rIx K) ix_seq (pe_ix (r := rIx K) ix_seq (pv 4) (pv 7) (fun _ _ => rfl)) (pe_ix (r := rIxL K) ix_list (pv 5) (pv 7) (fun _ _ => rfl)) (fun _ _ => rfl)) pa_nil))) (pss_one (ps_augS (pv 5) (pv 7) get_list pe_int ip_add set_list)))) (pss_one (ps_ret (pe_callTy (r := rTupO K) call_tuple_of (by rfl) T.b_tuple (by decide +kernel) (pa_cons (pv 6) pa_nil)))))))))), fun os Pp h => ?_⟩)
  · obtain ⟨ms, y, t, xs, lg, rfl, q⟩ := h
    rfl
  · obtain ⟨ms, y, t, xs, lg, rfl, hg, hx, hy, hl, ht, hlx, q⟩ := h
    have bk : ∀ (a b : Dat) (ρ : Rh), bks [Ow.d a, Ow.d b] ρ = ρ := fun a b ρ => rfl
    have hm8 := hg.2.1
    show SvP K E _ [some (.d (hObj CH ms)), some (.d y), some (.d lg), none, none, none, none, none, none] _
    refine sv_seq (sv_asg ?_)
    refine ev_call (av_cons (ev_v rfl (bnd_ok (av_cons (ev_v rfl (bnd_ok (av_nil ?_)))))))
    refine ⟨ms, y, t, xs, rfl, hx, hy, hl, ht, ?_⟩
    rcases q with ⟨j, hj, q⟩ | ⟨hs, rfl, hb, q⟩
    · refine .inr ⟨j, hj, ?_⟩
      show bndS _ _ (Re.ex _ _) (bks _ _)
      rw [bk]
      exact ⟨_, pms_d [hObj CH ms, y, lg] _ (Nat.le_of_ble_eq_true rfl), q⟩
    · refine .inl ⟨fun x hx2 => ?_, ?_⟩
      · obtain ⟨h, hh, rfl⟩ := List.mem_map.mp hx2
        exact isBelow_int ⟨by omega, by have := hb h hh; omega⟩
      show bndS _ _ (Re.ok _) (bks _ _)
      rw [bk]
      rw [List.length_map] at hl
      refine bndS_ok ⟨Nat.le_of_ble_eq_true rfl, seq_nx ?_⟩
      refine sv_seq (sv_asg ?_)
      refine ev_call (av_cons (ev_v rfl (bnd_ok (av_cons (ev_v rfl (bnd_ok (av_nil ?_)))))))
      refine ⟨ms, lg, rfl, hg, hlx, ?_⟩
      rcases q with ⟨hne, q⟩ | ⟨t2, rs, rows, hly, hL, hrw, hne, q⟩
      · refine .inr ⟨hne, ?_⟩
        show bndS _ _ (Re.ex _ _) (bks _ _)
        rw [bk]
        exact ⟨_, pms_d [hObj CH ms, y, lg] _ (Nat.le_of_ble_eq_true rfl), q⟩
      · refine .inl ⟨t2, rs, hly, hL, ?_⟩
        show bndS _ _ (Re.ok _) (bks _ _)
        rw [bk, hrw]
        have hrl : rows.length = ms.length := by
          have := congrArg List.length hrw
          rw [List.length_map, rowsD, List.length_map, hL.len] at this
          exact this.symm
        refine bndS_ok ⟨Nat.le_of_ble_eq_true rfl, seq_nx ?_⟩
        refine sv_seq (sv_if (tv_test (ev_neD ?_)))
        refine ev_pure (av_cons (ev_v rfl (bnd_ok (av_cons (ev_v rfl (bnd_ok (av_nil ?_)))))))
        refine ⟨[hObj CH ms, .tup (hs.map fun (h : Nat) => Dat.int h)], _, rfl, ⟨ms, _, true, hs, rfl, hg, rfl, rfl, hl, hb, rfl⟩, ?_⟩
        refine bnd_ok ?_
        refine DL.ev_tupD (av_cons ?_)
        refine ev_lcM (ws := [8]) (fun r : List Int => .tup (r.map Dat.int)) (fun r : List Int => .int ((r.length : Nat) : Int)) (by decide) ?_
        refine iv_any ?_
        refine ev_v rfl (bnd_ok ⟨_, _, _, rfl, rfl, rows, rfl, by omega, fun r hr2 => ?_, ?_⟩)
        · refine gv_name (Nat.le_of_ble_eq_true rfl) ⟨rfl, ?_⟩
          refine DL.ev_len (av_cons (ev_v rfl (bnd_ok (av_nil ⟨_, _, _, rfl, rfl, ?_⟩))))
          rw [List.length_map]
          exact onE_ok ⟨rfl, rfl⟩
        refine bnd_ok (av_nil ⟨_, _, _, rfl, rfl, ?_⟩)
        have hn : ∀ l : List Int, Nice 1 (.tup (l.map Dat.int)) := fun l => nice_tup (nice_map fun k _ => nice_int (n := 0) k)
        rw [show (rows.map fun r : List Int => Dat.int ((r.length : Nat) : Int)) = (rows.map fun r : List Int => ((r.length : Nat) : Int)).map Dat.int by rw [List.map_map]; rfl]
        refine bnd_ok ⟨_, _, false, rfl, rfl, (hn _).two (hn _) (by decide) (by decide), eqv_ints.trans (decide_eq_false (fun z => hne z.symm)), ?_⟩
        refine bnd_ok ⟨_, rfl, ?_⟩
        refine bndS_ok ⟨_, rfl, fun _ => ?_, fun hb => absurd hb (by decide)⟩
        refine sv_raise ER_Refused.ox ER_Refused.no ER_Refused.few ?_
        refine av_cons (ev_v rfl (bnd_ok (av_nil ⟨[lg], rfl, rfl, _, pms_d [hObj CH ms, y, lg] _ (Nat.le_of_ble_eq_true rfl), q⟩)))

end
end K02

namespace K02
open PySem L2 Evl DL
local macro_rules | `(tactic| walk_at "dl") => `(tactic| first
  | with_reducible refine bnd_ok ?_ | with_reducible refine bndS_ok ?_ | with_reducible refine onE_ok ?_ | with_reducible refine seq_nx ?_ | with_reducible refine seq_rt ?_ | with_reducible refine seq_bk ?_ | with_reducible refine seq_ct ?_ | with_reducible refine onT_rt ?_ | with_reducible refine onT_bk ?_ | with_reducible refine resS_nx ?_ | with_reducible refine resS_rt ?_
  | refine ev_v rfl ?_ | refine ev_l rfl ?_ | with_reducible refine ev_i ?_ | with_reducible refine ev_n ?_ | with_reducible refine ev_b ?_ | with_reducible refine ev_s ?_
  | with_reducible refine ev_oZ0 ?_ | with_reducible refine ev_oB0 ?_ | with_reducible refine ev_oZ ?_ | with_reducible refine ev_neg ?_ | with_reducible refine ev_neI ?_ | with_reducible refine ev_eqI ?_ | with_reducible refine ev_isN ?_ | with_reducible refine ev_notN ?_ | with_reducible refine ev_chain ?_
  | with_reducible refine ev_andV ?_ | with_reducible refine ev_orV ?_ | with_reducible refine ev_notV ?_ | with_reducible refine ev_if ?_
  | with_reducible refine tv_test ?_ | with_reducible refine tv_B ?_ | with_reducible refine tv_and ?_ | with_reducible refine tv_or ?_ | with_reducible refine tv_not ?_ | with_reducible refine tv_yes ?_
  | with_reducible refine ev_isiInt ?_ | with_reducible refine ev_isiBool ?_ | with_reducible refine ev_isiSeq ?_
  | with_reducible refine av_cons ?_ | with_reducible refine av_nil ?_
  | with_reducible refine ev_pure ?_ | with_reducible refine ev_gcd ?_ | with_reducible refine ev_abs ?_ | with_reducible refine ev_int1 ?_
  | (with_reducible refine DL.ev_len ?_; refine av_cons ?_; refine ev_v rfl ?_; refine bnd_ok ?_; refine av_nil ?_; refine ⟨_, _, _, rfl, by first | rfl | assumption, ?_⟩)
  | with_reducible refine ev_fldD ?_ | with_reducible refine ev_ixS ?_
  | with_reducible refine sv_seq ?_ | with_reducible refine sv_next ?_ | with_reducible refine sv_brk ?_ | with_reducible refine sv_cont ?_ | with_reducible refine sv_ret ?_ | with_reducible refine sv_retN ?_ | with_reducible refine sv_if ?_ | with_reducible refine sv_drop ?_
  | with_reducible refine sv_asg ?_
  | refine ⟨_, rfl, fun hb => ?_, fun hb => ?_⟩
  | refine ⟨_, _, rfl, rfl, fun hb => ?_, fun hb => ?_⟩
  | refine ⟨_, _, rfl, rfl, ?_⟩
  | refine ⟨_, _, _, _, rfl, rfl, rfl, ?_⟩
  | refine ⟨_, rfl, ?_⟩ | refine ⟨_, _, rfl, ?_⟩
  | refine And.intro rfl ?_ | refine And.intro (Nat.le_of_ble_eq_true rfl) ?_ | refine And.intro (by assumption) ?_)
local macro_rules | `(tactic| walk_at "dls") => `(tactic| repeat (walk_at "dl"; all_goals try (first | (exact (nomatch ‹false = true›)) | (exact (nomatch ‹true = false›)))))
local macro_rules | `(tactic| walk_at "dla") => `(tactic| repeat' (first | (exact (nomatch ‹false = true›)) | (exact (nomatch ‹true = false›)) | walk_at "dl"))
local macro_rules | `(tactic| walk_at "dlr") => `(tactic| (refine ret_rt (pms_d _ _ (Nat.le_of_ble_eq_true rfl)) ?_))
local macro_rules | `(tactic| walk_at "dlt") => `(tactic| first | walk_at "dl" | with_reducible refine ev_tup2 ?_ | with_reducible refine ev_tup3 ?_)
local macro_rules | `(tactic| walk_at "dlts") => `(tactic| repeat walk_at "dlt")
section
variable {P : Program} {w : World} {K : PySem.W.Frag} [HasTabs K] {mg : Str → Option Value} {base : Heap} {CH CD : Addr}
abbrev s_need_hand : Stmt := topS 22
abbrev N_need_hand : List Str := ["hands", "hand"]
theorem sc_need_hand : FnScope N_need_hand ["hands", "hand"] (defScope s_need_hand) := ⟨rfl, rfl, rfl, by decide +kernel, rfl, by decide +kernel, by decide +kernel⟩
def R_need_hand (CH : Addr) : List Dat → Dat → Prop := fun ds d => ∃ (ms : List Int) (h : Nat), ds = [hObj CH ms, .int h] ∧ h < ms.length ∧ d = .int h
theorem ok_need_hand (T : Txt mg) (LH : ClHands K CH) (O_is_below : Ok P w K mg base 2 "is_below" ["value", "bound"] (pureR R_is_below)) (F : Dfn K mg "need_hand" "need_hand" s_need_hand ["hands", "hand"]) : Ok P w K mg base 3 "need_hand" ["hands", "hand"] (pureR (R_need_hand CH)) := by
  refine F.ok sc_need_hand (by decide) (fun os Pp h => ?_) pureR_noex (fun f cdv A outer s H E hr => ⟨_, (pss_cons (ps_if (pt_not (pt_val (pe_fn O_is_below ⟨rfl, rfl, rfl, rfl, rfl⟩ (hr.mono (by decide)) rfl (pa_cons (pv 1) (pa_cons (pe_fldK (K := K) rfl (pv 0) rfl) pa_nil))))) (pss_one ps_never) pss_nil) (pss_one (ps_ret (pv 1)))), fun os Pp h => ?_⟩)
  · obtain ⟨ds, d, rfl, ⟨ms, n, rfl, h1, rfl⟩, q⟩ := h
    rfl
  · obtain ⟨ds, d, rfl, ⟨ms, n, rfl, h1, rfl⟩, q⟩ := h
    show SvP K E0 _ [some (.d (hObj CH ms)), some (.d (.int n))] _
    walk_at "dls"
    refine ⟨_, _, _, rfl, LH.c, LH.n, rfl, ?_⟩
    walk_at "dls"
    refine ⟨[.int n, .int ms.length], _, rfl, ⟨_, _, rfl, rfl, rfl⟩, ?_⟩
    rw [show isBelow (.int n) ms.length = true by
      show (decide (0 ≤ (n : Int)) && decide ((n : Int) < ms.length)) = true
      rw [decide_eq_true (show 0 ≤ (n : Int) by omega), decide_eq_true (show (n : Int) < ms.length by omega)]
      rfl]
    walk_at "dls"
    walk_at "dlr"
    exact q

end
end K02

namespace K02
open PySem L2 Evl DL
local macro_rules | `(tactic| walk_at "dl") => `(tactic| first
  | with_reducible refine bnd_ok ?_ | with_reducible refine bndS_ok ?_ | with_reducible refine onE_ok ?_ | with_reducible refine seq_nx ?_ | with_reducible refine seq_rt ?_ | with_reducible refine seq_bk ?_ | with_reducible refine seq_ct ?_ | with_reducible refine onT_rt ?_ | with_reducible refine onT_bk ?_ | with_reducible refine resS_nx ?_ | with_reducible refine resS_rt ?_
  | refine ev_v rfl ?_ | refine ev_l rfl ?_ | with_reducible refine ev_i ?_ | with_reducible refine ev_n ?_ | with_reducible refine ev_b ?_ | with_reducible refine ev_s ?_
  | with_reducible refine ev_oZ0 ?_ | with_reducible refine ev_oB0 ?_ | with_reducible refine ev_oZ ?_ | with_reducible refine ev_neg ?_ | with_reducible refine ev_neI ?_ | with_reducible refine ev_eqI ?_ | with_reducible refine ev_isN ?_ | with_reducible refine ev_notN ?_ | with_reducible refine ev_chain ?_
  | with_reducible refine ev_andV ?_ | with_reducible refine ev_orV ?_ | with_reducible refine ev_notV ?_ | with_reducible refine ev_if ?_
  | with_reducible refine tv_test ?_ | with_reducible refine tv_B ?_ | with_reducible refine tv_and ?_ | with_reducible refine tv_or ?_ | with_reducible refine tv_not ?_ | with_reducible refine tv_yes ?_
  | with_reducible refine ev_isiInt ?_ | with_reducible refine ev_isiBool ?_ | with_reducible refine ev_isiSeq ?_
  | with_reducible refine av_cons ?_ | with_reducible refine av_nil ?_
  | with_reducible refine ev_pure ?_ | with_reducible refine ev_gcd ?_ | with_reducible refine ev_abs ?_ | with_reducible refine ev_int1 ?_
  | (with_reducible refine DL.ev_len ?_; refine av_cons ?_; refine ev_v rfl ?_; refine bnd_ok ?_; refine av_nil ?_; refine ⟨_, _, _, rfl, by first | rfl | assumption, ?_⟩)
  | with_reducible refine ev_fldD ?_ | with_reducible refine ev_ixS ?_
  | with_reducible refine sv_seq ?_ | with_reducible refine sv_next ?_ | with_reducible refine sv_brk ?_ | with_reducible refine sv_cont ?_ | with_reducible refine sv_ret ?_ | with_reducible refine sv_retN ?_ | with_reducible refine sv_if ?_ | with_reducible refine sv_drop ?_
  | with_reducible refine sv_asg ?_
  | refine ⟨_, rfl, fun hb => ?_, fun hb => ?_⟩
  | refine ⟨_, _, rfl, rfl, fun hb => ?_, fun hb => ?_⟩
  | refine ⟨_, _, rfl, rfl, ?_⟩
  | refine ⟨_, _, _, _, rfl, rfl, rfl, ?_⟩
  | refine ⟨_, rfl, ?_⟩ | refine ⟨_, _, rfl, ?_⟩
  | refine And.intro rfl ?_ | refine And.intro (Nat.le_of_ble_eq_true rfl) ?_ | refine And.intro (by assumption) ?_)
local macro_rules | `(tactic| walk_at "dls") => `(tactic| repeat (walk_at "dl"; all_goals try (first | (exact (nomatch ‹false = true›)) | (exact (nomatch ‹true = false›)))))
local macro_rules | `(tactic| walk_at "dla") => `(tactic| repeat' (first | (exact (nomatch ‹false = true›)) | (exact (nomatch ‹true = false›)) | walk_at "dl"))
local macro_rules | `(tactic| walk_at "dlr") => `(tactic| (refine ret_rt (pms_d _ _ (Nat.le_of_ble_eq_true rfl)) ?_))
local macro_rules | `(tactic| walk_at "dlt") => `(tactic| first | walk_at "dl" | with_reducible refine ev_tup2 ?_ | with_reducible refine ev_tup3 ?_)
local macro_rules | `(tactic| walk_at "dlts") => `(tactic| repeat walk_at "dlt")
section
variable {P : Program} {w : World} {K : PySem.W.Frag} [HasTabs K] {mg : Str → Option Value} {base : Heap} {CH CD : Addr}
abbrev s_with_item : Stmt := topS 6
abbrev N_with_item : List Str := ["row", "at", "item"]
theorem sc_with_item : FnScope N_with_item ["row", "at", "item"] (defScope s_with_item) := ⟨rfl, rfl, rfl, by decide +kernel, rfl, by decide +kernel, by decide +kernel⟩
def R_with_item : List Dat → Dat → Prop := fun ds d => ∃ (xs : List Dat) (j : Nat) (x : Dat), ds = [.tup xs, .int j, x] ∧ j < xs.length ∧ xs.length ≤ 1000 ∧ d = .tup (xs.set j x)
theorem ok_with_item (T : Txt mg) (F : Dfn K mg "with_item" "with_item" s_with_item ["row", "at", "item"]) : Ok P w K mg base 1 "with_item" ["row", "at", "item"] (pureR R_with_item) := by
  refine F.ok sc_with_item (by decide) (fun os Pp h => ?_) pureR_noex (fun f cdv A outer s H E hr => ⟨_, (pss_one (ps_ret (pe_op (r := rCatA K) op_catA (pe_op (r := rCatA K) op_catA (pe_slice (r := rSlA K) sl_tupA (pv 0) po_none (po_some (pv 1))) (pe_tup (pa_cons (pv 2) pa_nil))) (pe_slice (r := rSlA K) sl_tupA (pv 0) (po_some (pe_op op_add (pv 1) pe_int)) po_none)))), fun os Pp h => ?_⟩)
  · obtain ⟨ds, d, rfl, ⟨xs, j, x, rfl, hj, hl, rfl⟩, q⟩ := h
    rfl
  · obtain ⟨ds, d, rfl, ⟨xs, j, x, rfl, hj, hl, rfl⟩, q⟩ := h
    show SvP K E0 _ [some (.d (.tup xs)), some (.d (.int j)), some (.d x)] _
    refine sv_ret ?_
    refine ev_catT ?_
    refine ev_catT ?_
    refine ev_slTu (ev_v rfl (bnd_ok ⟨xs, rfl, ev_v rfl (bnd_ok ⟨_, rfl, ?_⟩)⟩))
    refine bnd_ok ?_
    refine ev_tup (ds := []) (av_cons (ev_v rfl (bnd_ok (av_nil ⟨[x], rfl, Nat.le_of_ble_eq_true rfl, ?_⟩))))
    have h1 : cutD xs none (some (j : Int)) = xs.take j := by
      unfold cutD
      rw [show HT.sIx xs.length 0 none = 0 from rfl, HT.sIx_nat]
      simp [Nat.min_eq_left (Nat.le_of_lt hj)]
    have h2 : cutD xs (some ((j : Int) + 1)) none = xs.drop (j + 1) := by
      unfold cutD
      rw [show HT.sIx xs.length xs.length none = xs.length from rfl, show ((j : Int) + 1) = ((j + 1 : Nat) : Int) from rfl, HT.sIx_nat, Nat.min_eq_left (show j + 1 ≤ xs.length from hj)]
      exact List.take_of_length_le (by rw [List.length_drop]; exact Nat.le_refl _)
    refine bnd_ok ⟨_, _, rfl, rfl, ?_, ?_⟩
    · rw [h1, List.length_take]; show _ + 1 ≤ _; omega
    refine bnd_ok ?_
    refine ev_slT (ev_v rfl (bnd_ok ⟨xs, rfl, ?_⟩))
    refine ev_oZ0 (ev_v rfl (bnd_ok (ev_i (bnd_ok ⟨_, _, rfl, rfl, ?_⟩))))
    refine bnd_ok ⟨_, rfl, ?_⟩
    refine bnd_ok ⟨_, _, rfl, rfl, ?_, ?_⟩
    · rw [h1, h2, List.length_append, List.length_take, List.length_drop]; show _ + 1 + _ ≤ _; omega
    rw [h1, h2, List.append_assoc]
    rw [show xs.take j ++ ([x] ++ xs.drop (j + 1)) = xs.set j x from (List.set_eq_take_append_cons_drop (l := xs) (i := j) (a := x)).symm ▸ (by rw [if_pos hj]; rfl)]
    walk_at "dls"
    walk_at "dlr"
    exact q

end
end K02

namespace K02
open PySem L2 Evl DL
local macro_rules | `(tactic| walk_at "dl") => `(tactic| first
  | with_reducible refine bnd_ok ?_ | with_reducible refine bndS_ok ?_ | with_reducible refine onE_ok ?_ | with_reducible refine seq_nx ?_ | with_reducible refine seq_rt ?_ | with_reducible refine seq_bk ?_ | with_reducible refine seq_ct ?_ | with_reducible refine onT_rt ?_ | with_reducible refine onT_bk ?_ | with_reducible refine resS_nx ?_ | with_reducible refine resS_rt ?_
  | refine ev_v rfl ?_ | refine ev_l rfl ?_ | with_reducible refine ev_i ?_ | with_reducible refine ev_n ?_ | with_reducible refine ev_b ?_ | with_reducible refine ev_s ?_
  | with_reducible refine ev_oZ0 ?_ | with_reducible refine ev_oB0 ?_ | with_reducible refine ev_oZ ?_ | with_reducible refine ev_neg ?_ | with_reducible refine ev_neI ?_ | with_reducible refine ev_eqI ?_ | with_reducible refine ev_isN ?_ | with_reducible refine ev_notN ?_ | with_reducible refine ev_chain ?_
  | with_reducible refine ev_andV ?_ | with_reducible refine ev_orV ?_ | with_reducible refine ev_notV ?_ | with_reducible refine ev_if ?_
  | with_reducible refine tv_test ?_ | with_reducible refine tv_B ?_ | with_reducible refine tv_and ?_ | with_reducible refine tv_or ?_ | with_reducible refine tv_not ?_ | with_reducible refine tv_yes ?_
  | with_reducible refine ev_isiInt ?_ | with_reducible refine ev_isiBool ?_ | with_reducible refine ev_isiSeq ?_
  | with_reducible refine av_cons ?_ | with_reducible refine av_nil ?_
  | with_reducible refine ev_pure ?_ | with_reducible refine ev_gcd ?_ | with_reducible refine ev_abs ?_ | with_reducible refine ev_int1 ?_
  | (with_reducible refine DL.ev_len ?_; refine av_cons ?_; refine ev_v rfl ?_; refine bnd_ok ?_; refine av_nil ?_; refine ⟨_, _, _, rfl, by first | rfl | assumption, ?_⟩)
  | with_reducible refine ev_fldD ?_ | with_reducible refine ev_ixS ?_
  | with_reducible refine sv_seq ?_ | with_reducible refine sv_next ?_ | with_reducible refine sv_brk ?_ | with_reducible refine sv_cont ?_ | with_reducible refine sv_ret ?_ | with_reducible refine sv_retN ?_ | with_reducible refine sv_if ?_ | with_reducible refine sv_drop ?_
  | with_reducible refine sv_asg ?_
  | refine ⟨_, rfl, fun hb => ?_, fun hb => ?_⟩
  | refine ⟨_, _, rfl, rfl, fun hb => ?_, fun hb => ?_⟩
  | refine ⟨_, _, rfl, rfl, ?_⟩
  | refine ⟨_, _, _, _, rfl, rfl, rfl, ?_⟩
  | refine ⟨_, rfl, ?_⟩ | refine ⟨_, _, rfl, ?_⟩
  | refine And.intro rfl ?_ | refine And.intro (Nat.le_of_ble_eq_true rfl) ?_ | refine And.intro (by assumption) ?_)
local macro_rules | `(tactic| walk_at "dls") => `(tactic| repeat (walk_at "dl"; all_goals try (first | (exact (nomatch ‹false = true›)) | (exact (nomatch ‹true = false›)))))
local macro_rules | `(tactic| walk_at "dla") => `(tactic| repeat' (first | (exact (nomatch ‹false = true›)) | (exact (nomatch ‹true = false›)) | walk_at "dl"))
local macro_rules | `(tactic| walk_at "dlr") => `(tactic| (refine ret_rt (pms_d _ _ (Nat.le_of_ble_eq_true rfl)) ?_))
local macro_rules | `(tactic| walk_at "dlt") => `(tactic| first | walk_at "dl" | with_reducible refine ev_tup2 ?_ | with_reducible refine ev_tup3 ?_)
local macro_rules | `(tactic| walk_at "dlts") => `(tactic| repeat walk_at "dlt")
section
variable {P : Program} {w : World} {K : PySem.W.Frag} [HasTabs K] {mg : Str → Option Value} {base : Heap} {CH CD : Addr}
abbrev s_struck_logs : Stmt := topS 33
abbrev N_struck_logs : List Str := ["hands", "logs", "hand", "rows"]
theorem sc_struck_logs : FnScope N_struck_logs ["hands", "logs", "hand"] (defScope s_struck_logs) := ⟨rfl, rfl, rfl, by decide +kernel, rfl, by decide +kernel, by decide +kernel⟩
theorem cutD_dropLast (xs : List Dat) : cutD xs none (some (-1)) = xs.dropLast := by
  unfold cutD
  rw [show HT.sIx xs.length 0 none = 0 from rfl]
  have e : HT.sIx xs.length xs.length (some (-1)) = xs.length - 1 := by
    unfold HT.sIx
    show (if (-1 : Int) < 0 then ((-1 : Int) + (xs.length : Int)).toNat else min (-1 : Int).toNat xs.length) = xs.length - 1
    rw [if_pos (by decide)]
    omega
  rw [e, List.drop_zero, Nat.sub_zero, List.dropLast_eq_take]
def R_struck_logs (CH : Addr) : List Dat → Dat → Prop := fun ds d => ∃ (ms : List Int) (y : Dat) (t : Bool) (rs : List Dat) (rows : List (List Int)) (h : Nat) (r : List Int), ds = [hObj CH ms, y, .int h] ∧ Good ms ∧ y.tyn.isSome = true ∧ y.seq = some (t, rs) ∧ LogsOk ms rs ∧ rs.map tupOf = rowsD rows ∧ rows[h]? = some r ∧ r ≠ [] ∧ d = .tup (rowsD (rows.set h r.dropLast))
theorem ok_struck_logs (T : Txt mg) (LH : ClHands K CH) (O_check_logs : Ok P w K mg base 5 "check_logs" ["hands", "value"] (pureR (R_check_logs CH))) (O_need_hand : Ok P w K mg base 3 "need_hand" ["hands", "hand"] (pureR (R_need_hand CH))) (O_with_item : Ok P w K mg base 1 "with_item" ["row", "at", "item"] (pureR R_with_item))
    (F : DfnK K mg "struck_logs" "struck_logs" s_struck_logs ["hands", "logs", "hand"]) : Ok P w K mg base 6 "struck_logs" ["hands", "logs", "hand"] (pureR (R_struck_logs CH)) ∧ OkK P w K mg base 6 "struck_logs" ["hands", "logs", "hand"] (pureR (R_struck_logs CH)) := by
  refine F.ok sc_struck_logs (by decide) (fun os Pp h => ?_) pureR_noex (fun f cdv A outer s H E hr => ⟨_, (pss_cons (ps_set (i := 3) sc_struck_logs.nd rfl (.inl rfl) (pe_fn O_check_logs ⟨rfl, rfl, rfl, rfl, rfl⟩ (hr.mono (by decide)) rfl (pa_cons (pv 0) (pa_cons (pv 1) pa_nil)))) (pss_cons (ps_expr (pe_fn O_need_hand ⟨rfl, rfl, rfl, rfl, rfl⟩ (hr.mono (by decide)) rfl (pa_cons (pv 0) (pa_cons (pv 2) pa_nil)))) (pss_cons (ps_if (pt_not (pt_truK (K := K) rfl (pe_ix (r := rIx K) ix_seq (pv 3) (pv 2) (fun _ _ => rfl)) (fun _ => rfl))) (pss_one ps_never) pss_nil) (pss_one (ps_ret (pe_fn O_with_item ⟨rfl, rfl, rfl, rfl, rfl⟩ (hr.mono (by decide)) rfl (pa_cons (pv 3) (pa_cons (pv 2) (pa_cons (pe_slice (r := rSlA K) sl_tupA (pe_ix (r := rIx K) ix_seq (pv 3) (pv 2) (fun _ _ => rfl)) po_none (po_some (pe_un un_neg pe_int))) pa_nil))))))))), fun os Pp h => ?_⟩)
  · obtain ⟨ds, d, rfl, ⟨ms, y, t, rs, rows, h, r, rfl, hg, hx, hy, hL, hrw, hrh, hne, rfl⟩, q⟩ := h
    rfl
  · obtain ⟨ds, d, rfl, ⟨ms, y, t, rs, rows, h, r, rfl, hg, hx, hy, hL, hrw, hrh, hne, rfl⟩, q⟩ := h
    have hrl : rows.length = ms.length := by
      have := congrArg List.length hrw
      rw [List.length_map, rowsD, List.length_map, hL.len] at this
      exact this.symm
    have hh : h < rows.length := (List.getElem?_eq_some_iff.mp hrh).1
    have hm8 := hg.2.1
    have hat : atI (rowsD rows) (h : Int) = some (.tup (r.map Dat.int)) := atD_nat (by rw [rowsD, List.getElem?_map, hrh]; rfl)
    show SvP K E0 _ [some (.d (hObj CH ms)), some (.d y), some (.d (.int h)), none] _
    walk_at "dls"
    refine ⟨[hObj CH ms, y], _, rfl, ⟨ms, y, t, rs, rfl, hg, hx, hy, hL, rfl⟩, ?_⟩
    rw [hrw]
    walk_at "dls"
    refine ⟨[hObj CH ms, .int h], _, rfl, ⟨ms, h, rfl, by omega, rfl⟩, ?_⟩
    refine bndS_ok (seq_nx ?_)
    refine sv_seq (sv_if (tv_not (tv_truD ?_)))
    walk_at "dls"
    refine ⟨_, _, _, _, _, rfl, rfl, rfl, hat, ?_⟩
    refine bnd_ok ⟨_, _, _, rfl, rfl, ?_⟩
    refine bnd_ok ⟨_, rfl, ?_⟩
    rw [show (!(r.map Dat.int).isEmpty) = true by cases r with | nil => exact absurd rfl hne | cons _ _ => rfl]
    refine bndS_ok ⟨_, rfl, fun hb => absurd hb (by decide), fun _ => ?_⟩
    refine sv_next (seq_nx ?_)
    refine sv_ret ?_
    refine ev_pure (av_cons (ev_v rfl (bnd_ok (av_cons (ev_v rfl (bnd_ok (av_cons ?_)))))))
    refine ev_slTu ?_
    walk_at "dls"
    refine ⟨_, _, _, _, _, rfl, rfl, rfl, hat, ?_⟩
    refine bnd_ok ⟨_, rfl, ?_⟩
    refine ev_neg (ev_i (bnd_ok ⟨_, rfl, ?_⟩))
    refine bnd_ok ⟨_, rfl, ?_⟩
    rw [cutD_dropLast]
    refine bnd_ok (av_nil ⟨[.tup (rowsD rows), .int h, .tup ((r.map Dat.int).dropLast)], _, rfl, ⟨_, h, _, rfl, by rw [rowsD, List.length_map]; exact hh, by rw [rowsD, List.length_map]; omega, rfl⟩, ?_⟩)
    refine bndS_ok (ret_rt (pms_d [hObj CH ms, y, .int h] _ (Nat.le_of_ble_eq_true rfl)) ?_)
    rw [show (rowsD rows).set h (.tup ((r.map Dat.int).dropLast)) = rowsD (rows.set h r.dropLast) by
      unfold rowsD
      rw [List.map_set, List.map_dropLast]]
    exact q

end
end K02

namespace K02
open PySem L2 Evl DL
local macro_rules | `(tactic| walk_at "dl") => `(tactic| first
  | with_reducible refine bnd_ok ?_ | with_reducible refine bndS_ok ?_ | with_reducible refine onE_ok ?_ | with_reducible refine seq_nx ?_ | with_reducible refine seq_rt ?_ | with_reducible refine seq_bk ?_ | with_reducible refine seq_ct ?_ | with_reducible refine onT_rt ?_ | with_reducible refine onT_bk ?_ | with_reducible refine resS_nx ?_ | with_reducible refine resS_rt ?_
  | refine ev_v rfl ?_ | refine ev_l rfl ?_ | with_reducible refine ev_i ?_ | with_reducible refine ev_n ?_ | with_reducible refine ev_b ?_ | with_reducible refine ev_s ?_
  | with_reducible refine ev_oZ0 ?_ | with_reducible refine ev_oB0 ?_ | with_reducible refine ev_oZ ?_ | with_reducible refine ev_neg ?_ | with_reducible refine ev_neI ?_ | with_reducible refine ev_eqI ?_ | with_reducible refine ev_isN ?_ | with_reducible refine ev_notN ?_ | with_reducible refine ev_chain ?_
  | with_reducible refine ev_andV ?_ | with_reducible refine ev_orV ?_ | with_reducible refine ev_notV ?_ | with_reducible refine ev_if ?_
  | with_reducible refine tv_test ?_ | with_reducible refine tv_B ?_ | with_reducible refine tv_and ?_ | with_reducible refine tv_or ?_ | with_reducible refine tv_not ?_ | with_reducible refine tv_yes ?_
  | with_reducible refine ev_isiInt ?_ | with_reducible refine ev_isiBool ?_ | with_reducible refine ev_isiSeq ?_
  | with_reducible refine av_cons ?_ | with_reducible refine av_nil ?_
  | with_reducible refine ev_pure ?_ | with_reducible refine ev_gcd ?_ | with_reducible refine ev_abs ?_ | with_reducible refine ev_int1 ?_
  | (with_reducible refine DL.ev_len ?_; refine av_cons ?_; refine ev_v rfl ?_; refine bnd_ok ?_; refine av_nil ?_; refine ⟨_, _, _, rfl, by first | rfl | assumption, ?_⟩)
  | with_reducible refine ev_fldD ?_ | with_reducible refine ev_ixS ?_
  | with_reducible refine sv_seq ?_ | with_reducible refine sv_next ?_ | with_reducible refine sv_brk ?_ | with_reducible refine sv_cont ?_ | with_reducible refine sv_ret ?_ | with_reducible refine sv_retN ?_ | with_reducible refine sv_if ?_ | with_reducible refine sv_drop ?_
  | with_reducible refine sv_asg ?_
  | refine ⟨_, rfl, fun hb => ?_, fun hb => ?_⟩
  | refine ⟨_, _, rfl, rfl, fun hb => ?_, fun hb => ?_⟩
  | refine ⟨_, _, rfl, rfl, ?_⟩
  | refine ⟨_, _, _, _, rfl, rfl, rfl, ?_⟩
  | refine ⟨_, rfl, ?_⟩ | refine ⟨_, _, rfl, ?_⟩
  | refine And.intro rfl ?_ | refine And.intro (Nat.le_of_ble_eq_true rfl) ?_ | refine And.intro (by assumption) ?_)
local macro_rules | `(tactic| walk_at "dls") => `(tactic| repeat (walk_at "dl"; all_goals try (first | (exact (nomatch ‹false = true›)) | (exact (nomatch ‹true = false›)))))
local macro_rules | `(tactic| walk_at "dla") => `(tactic| repeat' (first | (exact (nomatch ‹false = true›)) | (exact (nomatch ‹true = false›)) | walk_at "dl"))
local macro_rules | `(tactic| walk_at "dlr") => `(tactic| (refine ret_rt (pms_d _ _ (Nat.le_of_ble_eq_true rfl)) ?_))
local macro_rules | `(tactic| walk_at "dlt") => `(tactic| first | walk_at "dl" | with_reducible refine ev_tup2 ?_ | with_reducible refine ev_tup3 ?_)
local macro_rules | `(tactic| walk_at "dlts") => `(tactic| repeat walk_at "dlt")
section
variable {P : Program} {w : World} {K : PySem.W.Frag} [HasTabs K] {mg : Str → Option Value} {base : Heap} {CH CD : Addr}
def R_need_handX (CH CN : Addr) : Pr := fun os Pp => ∃ (ms : List Int) (x : Dat), os = [.d (hObj CH ms), .d x] ∧ x.tyn.isSome = true ∧ if isBelow x ms.length = true then Pp (.ok (.d x)) os else Pp (.ex CN [("hand", x)]) os
theorem okx_need_hand (T : Txt mg) (LH : ClHands K CH) {CN : Addr} (EN_NoHand : ErrN P w K mg base "NoHand" CN "hand") (O_is_below : Ok P w K mg base 2 "is_below" ["value", "bound"] (pureR R_is_below)) (F : Dfn K mg "need_hand" "need_hand" s_need_hand ["hands", "hand"]) : OkX P w K mg base 3 "need_hand" ["hands", "hand"] (R_need_handX CH CN) := by
  refine F.okX sc_need_hand (by decide) (fun os Pp h => ?_) (fun f cdv A outer s H E hr => ⟨_, (pss_cons (ps_if (pt_not (pt_val (pe_fnE (E := E) O_is_below ⟨rfl, rfl, rfl, rfl, rfl⟩ (hr.mono (by decide)) rfl (pa_cons (pv 1) (pa_cons (pe_fldK (K := K) rfl (pv 0) rfl) pa_nil))))) (pss_one (ps_raiseN EN_NoHand (takes_of rfl rfl rfl rfl) rfl ⟨rfl, rfl, rfl, rfl, rfl⟩ (hr.mono (by decide)) rfl (pa_cons (pv 1) pa_nil))) pss_nil) (pss_one (ps_ret (pv 1)))), fun os Pp h => ?_⟩)
  · obtain ⟨ms, x, rfl, hx, q⟩ := h
    rfl
  · obtain ⟨ms, x, rfl, hx, q⟩ := h
    show SvP K E _ [some (.d (hObj CH ms)), some (.d x)] _
    walk_at "dls"
    refine ⟨_, _, _, rfl, LH.c, LH.n, rfl, ?_⟩
    walk_at "dls"
    refine ⟨[x, .int ms.length], _, rfl, ⟨_, _, rfl, hx, rfl⟩, ?_⟩
    cases hb : isBelow x ms.length with
    | true =>
      rw [if_pos hb] at q
      walk_at "dls"
      exact ret_rt (pms_d [hObj CH ms, x] _ (Nat.le_of_ble_eq_true rfl)) q
    | false =>
      rw [if_neg (by rw [hb]; simp)] at q
      walk_at "dls"
      refine sv_raiseN EN_NoHand.ox EN_NoHand.no ?_
      walk_at "dls"
      exact ⟨_, pms_d [hObj CH ms, x] _ (Nat.le_of_ble_eq_true rfl), q⟩

end
end K02

namespace K02
open PySem L2 Evl DL
local macro_rules | `(tactic| walk_at "dl") => `(tactic| first
  | with_reducible refine bnd_ok ?_ | with_reducible refine bndS_ok ?_ | with_reducible refine onE_ok ?_ | with_reducible refine seq_nx ?_ | with_reducible refine seq_rt ?_ | with_reducible refine seq_bk ?_ | with_reducible refine seq_ct ?_ | with_reducible refine onT_rt ?_ | with_reducible refine onT_bk ?_ | with_reducible refine resS_nx ?_ | with_reducible refine resS_rt ?_
  | refine ev_v rfl ?_ | refine ev_l rfl ?_ | with_reducible refine ev_i ?_ | with_reducible refine ev_n ?_ | with_reducible refine ev_b ?_ | with_reducible refine ev_s ?_
  | with_reducible refine ev_oZ0 ?_ | with_reducible refine ev_oB0 ?_ | with_reducible refine ev_oZ ?_ | with_reducible refine ev_neg ?_ | with_reducible refine ev_neI ?_ | with_reducible refine ev_eqI ?_ | with_reducible refine ev_isN ?_ | with_reducible refine ev_notN ?_ | with_reducible refine ev_chain ?_
  | with_reducible refine ev_andV ?_ | with_reducible refine ev_orV ?_ | with_reducible refine ev_notV ?_ | with_reducible refine ev_if ?_
  | with_reducible refine tv_test ?_ | with_reducible refine tv_B ?_ | with_reducible refine tv_and ?_ | with_reducible refine tv_or ?_ | with_reducible refine tv_not ?_ | with_reducible refine tv_yes ?_
  | with_reducible refine ev_isiInt ?_ | with_reducible refine ev_isiBool ?_ | with_reducible refine ev_isiSeq ?_
  | with_reducible refine av_cons ?_ | with_reducible refine av_nil ?_
  | with_reducible refine ev_pure ?_ | with_reducible refine ev_gcd ?_ | with_reducible refine ev_abs ?_ | with_reducible refine ev_int1 ?_
  | (with_reducible refine DL.ev_len ?_; refine av_cons ?_; refine ev_v rfl ?_; refine bnd_ok ?_; refine av_nil ?_; refine ⟨_, _, _, rfl, by first | rfl | assumption, ?_⟩)
  | with_reducible refine ev_fldD ?_ | with_reducible refine ev_ixS ?_
  | with_reducible refine sv_seq ?_ | with_reducible refine sv_next ?_ | with_reducible refine sv_brk ?_ | with_reducible refine sv_cont ?_ | with_reducible refine sv_ret ?_ | with_reducible refine sv_retN ?_ | with_reducible refine sv_if ?_ | with_reducible refine sv_drop ?_
  | with_reducible refine sv_asg ?_
  | refine ⟨_, rfl, fun hb => ?_, fun hb => ?_⟩
  | refine ⟨_, _, rfl, rfl, fun hb => ?_, fun hb => ?_⟩
  | refine ⟨_, _, rfl, rfl, ?_⟩
  | refine ⟨_, _, _, _, rfl, rfl, rfl, ?_⟩
  | refine ⟨_, rfl, ?_⟩ | refine ⟨_, _, rfl, ?_⟩
  | refine And.intro rfl ?_ | refine And.intro (Nat.le_of_ble_eq_true rfl) ?_ | refine And.intro (by assumption) ?_)
local macro_rules | `(tactic| walk_at "dls") => `(tactic| repeat (walk_at "dl"; all_goals try (first | (exact (nomatch ‹false = true›)) | (exact (nomatch ‹true = false›)))))
local macro_rules | `(tactic| walk_at "dla") => `(tactic| repeat' (first | (exact (nomatch ‹false = true›)) | (exact (nomatch ‹true = false›)) | walk_at "dl"))
local macro_rules | `(tactic| walk_at "dlr") => `(tactic| (refine ret_rt (pms_d _ _ (Nat.le_of_ble_eq_true rfl)) ?_))
local macro_rules | `(tactic| walk_at "dlt") => `(tactic| first | walk_at "dl" | with_reducible refine ev_tup2 ?_ | with_reducible refine ev_tup3 ?_)
local macro_rules | `(tactic| walk_at "dlts") => `(tactic| repeat walk_at "dlt")
section
variable {P : Program} {w : World} {K : PySem.W.Frag} [HasTabs K] {mg : Str → Option Value} {base : Heap} {CH CD : Addr}
def R_struck_logsX (CH CN CL CR : Addr) : Pr := fun os Pp => ∃ (ms : List Int) (lg hd : Dat), os = [.d (hObj CH ms), .d lg, .d hd] ∧ Good ms ∧ lg.tyn.isSome = true ∧ hd.tyn.isSome = true ∧
  (((∀ t rs, lg.seq = some (t, rs) → rs.length ≠ ms.length) ∧ Pp (.ex CL [("at", .int (-1))]) os) ∨ (∃ t rs, lg.seq = some (t, rs) ∧ LogsOk ms rs ∧ isBelow hd ms.length = false ∧ Pp (.ex CN [("hand", hd)]) os) ∨
    (∃ t rs rows, ∃ h : Nat, lg.seq = some (t, rs) ∧ LogsOk ms rs ∧ rs.map tupOf = rowsD rows ∧ hd = .int h ∧ rows[h]? = some [] ∧ Pp (.ex CR [("at", hd)]) os))
theorem okx_struck_logs (T : Txt mg) (LH : ClHands K CH) {CN CL CR : Addr} (ER_Refused : ErrC P w K mg base "Refused" CR ["at"]) (OX_check_logs : OkX P w K mg base 5 "check_logs" ["hands", "value"] (R_check_logsX CH CL)) (OX_need_hand : OkX P w K mg base 3 "need_hand" ["hands", "hand"] (R_need_handX CH CN)) (O_with_item : Ok P w K mg base 1 "with_item" ["row", "at", "item"] (pureR R_with_item))
    (F : DfnK K mg "struck_logs" "struck_logs" s_struck_logs ["hands", "logs", "hand"]) : OkX P w K mg base 6 "struck_logs" ["hands", "logs", "hand"] (R_struck_logsX CH CN CL CR) := by
  refine F.dfn.okX sc_struck_logs (by decide) (fun os Pp h => ?_) (fun f cdv A outer s H E hr => ⟨_, (pss_cons (ps_set (i := 3) sc_struck_logs.nd rfl (.inl rfl) (pe_fnX (E := E) OX_check_logs (takes_of rfl rfl rfl rfl) ⟨rfl, rfl, rfl, rfl, rfl⟩ (hr.mono (by decide)) rfl (pa_cons (pv 0) (pa_cons (pv 1) pa_nil)))) (pss_cons (ps_expr (pe_fnX (E := E) OX_need_hand (takes_of rfl rfl rfl rfl) ⟨rfl, rfl, rfl, rfl, rfl⟩ (hr.mono (by decide)) rfl (pa_cons (pv 0) (pa_cons (pv 2) pa_nil)))) (pss_cons (ps_if (pt_not (pt_truK (K := K) rfl (pe_ix (r := rIx K) ix_seq (pv 3) (pv 2) (fun _ _ => rfl)) (fun _ => rfl))) (pss_one (ps_raiseE ER_Refused (takes_of rfl rfl rfl rfl) rfl ⟨rfl, rfl, rfl, rfl, rfl⟩ (hr.mono (by decide)) rfl (pa_cons (pv 2) pa_nil))) pss_nil) (pss_one (ps_ret (pe_fnE (E := E) O_with_item ⟨rfl, rfl, rfl, rfl, rfl⟩ (hr.mono (by decide)) rfl (pa_cons (pv 3) (pa_cons (pv 2) (pa_cons (pe_slice (r := rSlA K) sl_tupA (pe_ix (r := rIx K) ix_seq (pv 3) (pv 2) (fun _ _ => rfl)) po_none (po_some (pe_un un_neg pe_int))) pa_nil))))))))), fun os Pp h => ?_⟩)
  · obtain ⟨ms, lg, hd, rfl, q⟩ := h
    rfl
  · obtain ⟨ms, lg, hd, rfl, hg, hx, hdx, q⟩ := h
    have bk : ∀ (a b : Dat) (ρ : Rh), bks [Ow.d a, Ow.d b] ρ = ρ := fun a b ρ => rfl
    have hm8 := hg.2.1
    show SvP K E _ [some (.d (hObj CH ms)), some (.d lg), some (.d hd), none] _
    refine sv_seq (sv_asg ?_)
    refine ev_call (av_cons (ev_v rfl (bnd_ok (av_cons (ev_v rfl (bnd_ok (av_nil ?_)))))))
    refine ⟨ms, lg, rfl, hg, hx, ?_⟩
    rcases q with ⟨hne, q⟩ | ⟨t, rs, hly, hL, hbn, q⟩ | ⟨t, rs, rows, h, hly, hL, hrw, rfl, hrh, q⟩
    · refine .inr ⟨hne, ?_⟩
      show bndS _ _ (Re.ex _ _) (bks _ _)
      rw [bk]
      exact ⟨_, pms_d [hObj CH ms, lg, hd] _ (Nat.le_of_ble_eq_true rfl), q⟩
    · refine .inl ⟨t, rs, hly, hL, ?_⟩
      show bndS _ _ (Re.ok _) (bks _ _)
      rw [bk]
      refine bndS_ok ⟨Nat.le_of_ble_eq_true rfl, seq_nx ?_⟩
      refine sv_seq (sv_drop ?_)
      refine ev_call (av_cons (ev_v rfl (bnd_ok (av_cons (ev_v rfl (bnd_ok (av_nil ?_)))))))
      refine ⟨ms, hd, rfl, hdx, ?_⟩
      rw [if_neg (by rw [hbn]; simp)]
      show bndS _ _ (Re.ex _ _) (bks _ _)
      rw [bk]
      exact ⟨_, pms_d [hObj CH ms, lg, hd] _ (Nat.le_of_ble_eq_true rfl), q⟩
    · refine .inl ⟨t, rs, hly, hL, ?_⟩
      show bndS _ _ (Re.ok _) (bks _ _)
      rw [bk, hrw]
      have hrl : rows.length = ms.length := by
        have := congrArg List.length hrw
        rw [List.length_map, rowsD, List.length_map, hL.len] at this
        exact this.symm
      have hh : h < rows.length := (List.getElem?_eq_some_iff.mp hrh).1
      have hat : atI (rowsD rows) (h : Int) = some (.tup []) := atD_nat (by rw [rowsD, List.getElem?_map, hrh]; rfl)
      refine bndS_ok ⟨Nat.le_of_ble_eq_true rfl, seq_nx ?_⟩
      refine sv_seq (sv_drop ?_)
      refine ev_call (av_cons (ev_v rfl (bnd_ok (av_cons (ev_v rfl (bnd_ok (av_nil ?_)))))))
      refine ⟨ms, .int h, rfl, rfl, ?_⟩
      rw [if_pos (isBelow_int ⟨by omega, by omega⟩)]
      show bndS _ _ (Re.ok _) (bks _ _)
      rw [bk]
      refine bndS_ok (seq_nx ?_)
      refine sv_seq (sv_if (tv_not (tv_truD ?_)))
      walk_at "dls"
      refine ⟨_, _, _, _, _, rfl, rfl, rfl, hat, ?_⟩
      refine bnd_ok ⟨_, _, _, rfl, rfl, ?_⟩
      refine bnd_ok ⟨_, rfl, ?_⟩
      refine bndS_ok ⟨_, rfl, fun _ => ?_, fun hb => absurd hb (by decide)⟩
      refine sv_raise ER_Refused.ox ER_Refused.no ER_Refused.few ?_
      refine av_cons (ev_v rfl (bnd_ok (av_nil ⟨[.int h], rfl, rfl, _, pms_d [hObj CH ms, lg, .int h] _ (Nat.le_of_ble_eq_true rfl), q⟩)))

end
end K02

namespace K02
open PySem L2 Evl DL
local macro_rules | `(tactic| walk_at "dl") => `(tactic| first
  | with_reducible refine bnd_ok ?_ | with_reducible refine bndS_ok ?_ | with_reducible refine onE_ok ?_ | with_reducible refine seq_nx ?_ | with_reducible refine seq_rt ?_ | with_reducible refine seq_bk ?_ | with_reducible refine seq_ct ?_ | with_reducible refine onT_rt ?_ | with_reducible refine onT_bk ?_ | with_reducible refine resS_nx ?_ | with_reducible refine resS_rt ?_
  | refine ev_v rfl ?_ | refine ev_l rfl ?_ | with_reducible refine ev_i ?_ | with_reducible refine ev_n ?_ | with_reducible refine ev_b ?_ | with_reducible refine ev_s ?_
  | with_reducible refine ev_oZ0 ?_ | with_reducible refine ev_oB0 ?_ | with_reducible refine ev_oZ ?_ | with_reducible refine ev_neg ?_ | with_reducible refine ev_neI ?_ | with_reducible refine ev_eqI ?_ | with_reducible refine ev_isN ?_ | with_reducible refine ev_notN ?_ | with_reducible refine ev_chain ?_
  | with_reducible refine ev_andV ?_ | with_reducible refine ev_orV ?_ | with_reducible refine ev_notV ?_ | with_reducible refine ev_if ?_
  | with_reducible refine tv_test ?_ | with_reducible refine tv_B ?_ | with_reducible refine tv_and ?_ | with_reducible refine tv_or ?_ | with_reducible refine tv_not ?_ | with_reducible refine tv_yes ?_
  | with_reducible refine ev_isiInt ?_ | with_reducible refine ev_isiBool ?_ | with_reducible refine ev_isiSeq ?_
  | with_reducible refine av_cons ?_ | with_reducible refine av_nil ?_
  | with_reducible refine ev_pure ?_ | with_reducible refine ev_gcd ?_ | with_reducible refine ev_abs ?_ | with_reducible refine ev_int1 ?_
  | (with_reducible refine DL.ev_len ?_; refine av_cons ?_; refine ev_v rfl ?_; refine bnd_ok ?_; refine av_nil ?_; refine ⟨_, _, _, rfl, by first | rfl | assumption, ?_⟩)
  | with_reducible refine ev_fldD ?_ | with_reducible refine ev_ixS ?_
  | with_reducible refine sv_seq ?_ | with_reducible refine sv_next ?_ | with_reducible refine sv_brk ?_ | with_reducible refine sv_cont ?_ | with_reducible refine sv_ret ?_ | with_reducible refine sv_retN ?_ | with_reducible refine sv_if ?_ | with_reducible refine sv_drop ?_
  | with_reducible refine sv_asg ?_
  | refine ⟨_, rfl, fun hb => ?_, fun hb => ?_⟩
  | refine ⟨_, _, rfl, rfl, fun hb => ?_, fun hb => ?_⟩
  | refine ⟨_, _, rfl, rfl, ?_⟩
  | refine ⟨_, _, _, _, rfl, rfl, rfl, ?_⟩
  | refine ⟨_, rfl, ?_⟩ | refine ⟨_, _, rfl, ?_⟩
  | refine And.intro rfl ?_ | refine And.intro (Nat.le_of_ble_eq_true rfl) ?_ | refine And.intro (by assumption) ?_)
local macro_rules | `(tactic| walk_at "dls") => `(tactic| repeat (walk_at "dl"; all_goals try (first | (exact (nomatch ‹false = true›)) | (exact (nomatch ‹true = false›)))))
local macro_rules | `(tactic| walk_at "dla") => `(tactic| repeat' (first | (exact (nomatch ‹false = true›)) | (exact (nomatch ‹true = false›)) | walk_at "dl"))
local macro_rules | `(tactic| walk_at "dlr") => `(tactic| (refine ret_rt (pms_d _ _ (Nat.le_of_ble_eq_true rfl)) ?_))
local macro_rules | `(tactic| walk_at "dlt") => `(tactic| first | walk_at "dl" | with_reducible refine ev_tup2 ?_ | with_reducible refine ev_tup3 ?_)
local macro_rules | `(tactic| walk_at "dlts") => `(tactic| repeat walk_at "dlt")
section
variable {P : Program} {w : World} {K : PySem.W.Frag} [HasTabs K] {mg : Str → Option Value} {base : Heap} {CH CD : Addr}
abbrev s__law_logs : Stmt := topS 39
abbrev N__law_logs : List Str := ["many", "story", "marks", "hand", "at"]
theorem sc__law_logs : FnScope N__law_logs ["many", "story", "marks"] (defScope s__law_logs) := ⟨rfl, rfl, rfl, by decide +kernel, rfl, by decide +kernel, by decide +kernel⟩
theorem pick_row (hs : List Nat) (ks : List Int) (h : Nat) (hl : ks.length = hs.length) : ((List.range hs.length).filter fun u => decide (hs.getD u 0 = h)).map (fun u => ks.getD u 0) = rowOf (hs.zip ks) h := by
  have key : ∀ t, t ≤ hs.length → ((List.range t).filter fun u => decide (hs.getD u 0 = h)).map (fun u => ks.getD u 0) = rowOf ((hs.zip ks).take t) h := by
    intro t
    induction t with
    | zero => intro _; simp [rowOf]
    | succ t ih =>
      intro ht
      have h1 : t < hs.length := by omega
      have h2 : t < ks.length := by omega
      rw [zip_take_succ h1 h2, rowOf_snoc, ← ih (by omega), List.range_succ, List.filter_append, List.map_append]
      have e1 : hs.getD t 0 = hs[t] := getD_at h1
      have e2 : ks.getD t 0 = ks[t] := getD_at h2
      by_cases e : hs[t] = h
      · rw [if_pos e, List.filter_cons_of_pos (by rw [e1]; simpa using e)]
        show _ ++ [ks.getD t 0] = _
        rw [e2]
      · rw [if_neg e, List.filter_cons_of_neg (by rw [e1]; simpa using e)]
        simp
  have := key hs.length (Nat.le_refl _)
  rw [List.take_of_length_le (by rw [List.length_zip]; omega)] at this
  exact this
def R_law_logs : List Dat → Dat → Prop := fun ds d => ∃ (n : Nat) (sy : Dat) (t : Bool) (hs : List Nat) (mk : Dat) (t2 : Bool) (ks : List Int), ds = [.int n, sy, mk] ∧ n ≤ 8 ∧ sy.seq = some (t, hs.map fun (h : Nat) => Dat.int h) ∧ mk.seq = some (t2, ks.map Dat.int) ∧ ks.length = hs.length ∧ hs.length ≤ 10000 ∧ d = .tup (rowsD (rowsP n (hs.zip ks)))
theorem ok__law_logs (T : Txt mg) (F : Dfn K mg "_law_logs" "_law_logs" s__law_logs ["many", "story", "marks"]) : Ok P w K mg base 1 "_law_logs" ["many", "story", "marks"] (pureR R_law_logs) := by
  refine F.ok sc__law_logs (by decide) (fun os Pp h => ?_) pureR_noex (fun f cdv A outer s H E hr => ⟨_, (pss_one (ps_ret (pe_callTy (r := rTupO K) call_tuple_of (by rfl) T.b_tuple (by decide +kernel) (pa_cons (pe_lc (own := [("hand", 3)]) (g := gName 3) (tt := tYes) rfl sc__law_logs.nd (pi_range1 (by rfl) T.b_range (pa_cons (pv 0) pa_nil)) (blkOk_by (own := [("hand", 3)]) (N := N__law_logs) (sc := defScope s__law_logs) (by decide +kernel)) (fun _ _ _ _ _ => (pg_name (i := 3) sc__law_logs.nd rfl (.inr rfl))) (fun _ _ _ _ _ => pts_nil) (fun _ _ _ _ _ => (pe_callTy (r := rTupO K) call_tuple_of (by rfl) T.b_tuple (by decide +kernel) (pa_cons (pe_lc (own := [("at", 4)]) (g := gName 4)  rfl sc__law_logs.nd (pi_range1 (by rfl) T.b_range (pa_cons (pe_callB (r := rLenQ K) call_len_seq (by rfl) T.b_len (by decide +kernel) (pa_cons (pv 1) pa_nil)) pa_nil)) (by show BlkOk N__law_logs (relS _ (defScope s__law_logs)) _ [("at", 4)]; exact blkOk_by (by decide +kernel)) (fun _ _ _ _ _ => (pg_name (i := 4) sc__law_logs.nd rfl (.inl rfl))) (fun _ _ _ _ _ => (pts_one (pt_cmpR op_eq (pe_ix (r := rIx K) ix_seq (pv 1) (pv 4) (fun _ _ => rfl)) (pv 3) (nomark _)))) (fun _ _ _ _ _ => (pe_ix (r := rIx K) ix_seq (pv 2) (pv 4) (fun _ _ => rfl)))) pa_nil)))) pa_nil)))), fun os Pp h => ?_⟩)
  · obtain ⟨ds, d, rfl, ⟨n, sy, t, hs, mk, t2, ks, rfl, hn, hsy, hmk, hkl, hl, rfl⟩, q⟩ := h
    rfl
  · obtain ⟨ds, d, rfl, ⟨n, sy, t, hs, mk, t2, ks, rfl, hn, hsy, hmk, hkl, hl, rfl⟩, q⟩ := h
    show SvP K E0 _ [some (.d (.int n)), some (.d sy), some (.d mk), none, none] _
    refine sv_ret ?_
    refine DL.ev_tupD (av_cons ?_)
    refine ev_lcM (ws := [3]) (fun h : Nat => .int (h : Int)) (fun h : Nat => .tup ((rowOf (hs.zip ks) h).map Dat.int)) (by decide) ?_
    refine iv_rng1 (av_cons (ev_v rfl (bnd_ok (av_nil ⟨_, rfl, by omega, by omega, List.range n, ?_, by rw [List.length_range]; omega, fun h hh => ?_, ?_⟩))))
    · unfold rangeD
      simp
    · refine gv_name (Nat.le_of_ble_eq_true rfl) ⟨rfl, ?_⟩
      refine DL.ev_tupD (av_cons ?_)
      refine ev_lcF (ws := [4]) (fun u : Nat => .int (u : Int)) (fun u : Nat => .int (ks.getD u 0)) (fun u : Nat => decide (hs.getD u 0 = h)) (by decide) ?_
      refine iv_rng1 (av_cons (DL.ev_len (av_cons (ev_v rfl (bnd_ok (av_nil ⟨_, _, _, rfl, hsy, ?_⟩))))))
      rw [List.length_map]
      refine bnd_ok (av_nil ⟨_, rfl, by omega, by omega, List.range hs.length, ?_, by rw [List.length_range]; omega, fun u hu => ?_, ?_⟩)
      · unfold rangeD
        simp
      · have hu1 := List.mem_range.mp hu
        refine gv_name (Nat.le_of_ble_eq_true rfl) ?_
        refine tv_test (ev_eqI ?_)
        refine ev_ixS (ev_v rfl (bnd_ok (ev_v rfl (bnd_ok ⟨_, _, _, _, .int ((hs.getD u 0 : Nat) : Int), rfl, rfl, hsy, atD_nat (by rw [List.getElem?_map, List.getElem?_eq_getElem hu1, getD_at hu1]; rfl), ?_⟩))))
        refine bnd_ok (ev_v rfl (bnd_ok ⟨_, _, rfl, rfl, ?_⟩))
        refine bnd_ok ⟨_, rfl, ?_⟩
        refine onE_ok ⟨by rw [show decide (((hs.getD u 0 : Nat) : Int) = (h : Int)) = decide (hs.getD u 0 = h) from decide_eq_decide.mpr (by omega)], rfl, fun _ => ?_⟩
        refine ev_ixS (ev_v rfl (bnd_ok (ev_v rfl (bnd_ok ⟨_, _, _, _, .int (ks.getD u 0), rfl, rfl, hmk, atD_nat (by rw [List.getElem?_map, List.getElem?_eq_getElem (by omega), getD_at (by omega)]; rfl), ?_⟩))))
        exact onE_ok ⟨rfl, rfl⟩
      · refine bnd_ok (av_nil ⟨_, _, _, rfl, rfl, ?_⟩)
        refine onE_ok ⟨?_, rfl⟩
        rw [← pick_row hs ks h hkl, List.map_map]
        rfl
    · refine bnd_ok (av_nil ⟨_, _, _, rfl, rfl, ?_⟩)
      refine bndS_ok (ret_rt (pms_d [.int n, sy, mk] _ (Nat.le_of_ble_eq_true rfl)) ?_)
      rw [show (List.range n).map (fun h : Nat => Dat.tup ((rowOf (hs.zip ks) h).map Dat.int)) = rowsD (rowsP n (hs.zip ks)) by
        unfold rowsD rowsP
        rw [List.map_map]
        rfl]
      exact q

end
end K02

namespace K02
open PySem L2 Evl DL
local macro_rules | `(tactic| walk_at "dl") => `(tactic| first
  | with_reducible refine bnd_ok ?_ | with_reducible refine bndS_ok ?_ | with_reducible refine onE_ok ?_ | with_reducible refine seq_nx ?_ | with_reducible refine seq_rt ?_ | with_reducible refine seq_bk ?_ | with_reducible refine seq_ct ?_ | with_reducible refine onT_rt ?_ | with_reducible refine onT_bk ?_ | with_reducible refine resS_nx ?_ | with_reducible refine resS_rt ?_
  | refine ev_v rfl ?_ | refine ev_l rfl ?_ | with_reducible refine ev_i ?_ | with_reducible refine ev_n ?_ | with_reducible refine ev_b ?_ | with_reducible refine ev_s ?_
  | with_reducible refine ev_oZ0 ?_ | with_reducible refine ev_oB0 ?_ | with_reducible refine ev_oZ ?_ | with_reducible refine ev_neg ?_ | with_reducible refine ev_neI ?_ | with_reducible refine ev_eqI ?_ | with_reducible refine ev_isN ?_ | with_reducible refine ev_notN ?_ | with_reducible refine ev_chain ?_
  | with_reducible refine ev_andV ?_ | with_reducible refine ev_orV ?_ | with_reducible refine ev_notV ?_ | with_reducible refine ev_if ?_
  | with_reducible refine tv_test ?_ | with_reducible refine tv_B ?_ | with_reducible refine tv_and ?_ | with_reducible refine tv_or ?_ | with_reducible refine tv_not ?_ | with_reducible refine tv_yes ?_
  | with_reducible refine ev_isiInt ?_ | with_reducible refine ev_isiBool ?_ | with_reducible refine ev_isiSeq ?_
  | with_reducible refine av_cons ?_ | with_reducible refine av_nil ?_
  | with_reducible refine ev_pure ?_ | with_reducible refine ev_gcd ?_ | with_reducible refine ev_abs ?_ | with_reducible refine ev_int1 ?_
  | (with_reducible refine DL.ev_len ?_; refine av_cons ?_; refine ev_v rfl ?_; refine bnd_ok ?_; refine av_nil ?_; refine ⟨_, _, _, rfl, by first | rfl | assumption, ?_⟩)
  | with_reducible refine ev_fldD ?_ | with_reducible refine ev_ixS ?_
  | with_reducible refine sv_seq ?_ | with_reducible refine sv_next ?_ | with_reducible refine sv_brk ?_ | with_reducible refine sv_cont ?_ | with_reducible refine sv_ret ?_ | with_reducible refine sv_retN ?_ | with_reducible refine sv_if ?_ | with_reducible refine sv_drop ?_
  | with_reducible refine sv_asg ?_
  | refine ⟨_, rfl, fun hb => ?_, fun hb => ?_⟩
  | refine ⟨_, _, rfl, rfl, fun hb => ?_, fun hb => ?_⟩
  | refine ⟨_, _, rfl, rfl, ?_⟩
  | refine ⟨_, _, _, _, rfl, rfl, rfl, ?_⟩
  | refine ⟨_, rfl, ?_⟩ | refine ⟨_, _, rfl, ?_⟩
  | refine And.intro rfl ?_ | refine And.intro (Nat.le_of_ble_eq_true rfl) ?_ | refine And.intro (by assumption) ?_)
local macro_rules | `(tactic| walk_at "dls") => `(tactic| repeat (walk_at "dl"; all_goals try (first | (exact (nomatch ‹false = true›)) | (exact (nomatch ‹true = false›)))))
local macro_rules | `(tactic| walk_at "dla") => `(tactic| repeat' (first | (exact (nomatch ‹false = true›)) | (exact (nomatch ‹true = false›)) | walk_at "dl"))
local macro_rules | `(tactic| walk_at "dlr") => `(tactic| (refine ret_rt (pms_d _ _ (Nat.le_of_ble_eq_true rfl)) ?_))
local macro_rules | `(tactic| walk_at "dlt") => `(tactic| first | walk_at "dl" | with_reducible refine ev_tup2 ?_ | with_reducible refine ev_tup3 ?_)
local macro_rules | `(tactic| walk_at "dlts") => `(tactic| repeat walk_at "dlt")
section
variable {P : Program} {w : World} {K : PySem.W.Frag} [HasTabs K] {mg : Str → Option Value} {base : Heap} {CH CD : Addr}
/-- rows with entries that are marks -/
structure RowsIn (ms : List Int) (rows : List (List Int)) : Prop where
  len : rows.length = ms.length
  inm : ∀ (j : Nat) (r : List Int) (m : Int), rows[j]? = some r → ms[j]? = some m → ∀ k ∈ r, 0 ≤ k ∧ k < m
  few : ∀ r ∈ rows, r.length ≤ 10000
theorem Along.rows {ms : List Int} {hs : List Nat} {ks : List Int} (A : Along ms hs ks) (hl : hs.length ≤ 10000) : RowsIn ms (rowsP ms.length (hs.zip ks)) := by
  refine ⟨rowsP_len _ _, fun j r m e1 e2 k hk => ?_, fun r hr => ?_⟩
  · have hj : j < ms.length := (List.getElem?_eq_some_iff.mp e2).1
    rw [rowsP_get _ hj] at e1
    cases e1
    obtain ⟨u, hu⟩ := List.getElem?_of_mem (rowOf_mem hk)
    obtain ⟨h1, h2⟩ := List.getElem?_zip_eq_some.mp hu
    exact A.kb u j k m h1 h2 e2
  · obtain ⟨j, hj⟩ := List.getElem?_of_mem hr
    have hjl : j < ms.length := by
      have := (List.getElem?_eq_some_iff.mp hj).1
      rw [rowsP_len] at this
      exact this
    rw [rowsP_get _ hjl] at hj
    cases hj
    rw [rowOf_len]
    refine Nat.le_trans List.count_le_length ?_
    rw [List.length_map, List.length_zip]
    omega
theorem fits_rowI {r : List Int} {m : Int} (h : ∀ k ∈ r, 0 ≤ k ∧ k < m) : fitsL (r.map Dat.int) (List.replicate r.length m) = true := by
  unfold fitsL
  rw [List.length_map, List.length_replicate, decide_eq_true rfl, Bool.true_and, List.all_eq_true]
  intro x hx
  obtain ⟨a, b⟩ := x
  obtain ⟨k, hk, rfl⟩ := List.mem_map.mp (List.of_mem_zip hx).1
  have h2 := List.eq_of_mem_replicate (List.of_mem_zip hx).2
  subst h2
  exact isBelow_int (h k hk)
/-- rows of marks are logs, as tuples and as lists -/
theorem RowsIn.ok {ms : List Int} {rows : List (List Int)} (R : RowsIn ms rows) (e : List Dat → Dat) (he : e = Dat.tup ∨ e = Dat.lst) : LogsOk ms (rows.map fun r => e (r.map Dat.int)) := by
  refine ⟨by rw [List.length_map]; exact R.len, fun i d m h1 h2 => ?_⟩
  rw [List.getElem?_map] at h1
  cases hx : rows[i]? with
  | none => rw [hx] at h1; exact nomatch h1
  | some r =>
    rw [hx] at h1
    cases h1
    have hlr := R.few r (List.mem_of_getElem? hx)
    have hf := fits_rowI (R.inm i r m hx h2)
    have ht : ∀ v ∈ r.map Dat.int, v.tyn.isSome = true := fun v hv => by
      obtain ⟨k, _, rfl⟩ := List.mem_map.mp hv
      rfl
    have hq : (decide ((r.map Dat.int).length ≤ 10000) && fitsL (r.map Dat.int) (List.replicate (r.map Dat.int).length m)) = true := by
      rw [List.length_map, decide_eq_true hlr, hf]
      rfl
    rcases he with rfl | rfl <;> exact ⟨hq, rfl, by rw [List.length_map]; omega, ht⟩
theorem tup_rowsI (rows : List (List Int)) : (rowsD rows).map tupOf = rowsD rows := by
  unfold rowsD
  rw [List.map_map]
  rfl
theorem lst_rowsI (rows : List (List Int)) : (rows.map fun r => Dat.lst (r.map Dat.int)).map tupOf = rowsD rows := by
  unfold rowsD
  rw [List.map_map]
  rfl
theorem RowsIn.nice {ms : List Int} {rows : List (List Int)} (R : RowsIn ms rows) : Nice 2 (.tup (rowsD rows)) := nice_tup (n := 1) (nice_map fun r _ => nice_tup (nice_map fun k _ => nice_int (n := 0) k))
/-- shown -/
theorem RowsIn.shw {ms : List Int} {rows : List (List Int)} (R : RowsIn ms rows) (g : Good ms) {c : Nat} (hc : ∀ r ∈ rows, r.length ≤ c) (h : c ≤ 100) (e : List Dat → Dat) (he : e = Dat.tup ∨ e = Dat.lst) (e2 : List Dat → Dat) (he2 : e2 = Dat.tup ∨ e2 = Dat.lst) : Shw 2 12000 (e2 (rows.map fun r => e (r.map Dat.int))) := by
  have key : ∀ d ∈ rows.map fun r => e (r.map Dat.int), Shw 1 1403 d := fun d hd => by
    obtain ⟨r, hr2, rfl⟩ := List.mem_map.mp hd
    obtain ⟨j, hj⟩ := List.getElem?_of_mem hr2
    have hj2 : j < ms.length := by have := (List.getElem?_eq_some_iff.mp hj).1; have := R.len; omega
    have hk : ∀ d ∈ r.map Dat.int, Shw 0 11 d := shw_map fun k hk => shw_int (by
      have := R.inm j r ms[j] hj (List.getElem?_eq_getElem hj2) k hk
      have := g.2.2 ms[j] (List.getElem_mem _)
      omega)
    have hn := hc r hr2
    rcases he with rfl | rfl
    · exact shw_tup hk (by rw [List.length_map]; omega)
    · exact shw_lst hk (by rw [List.length_map]; omega)
  have := R.len
  have := g.2.1
  rcases he2 with rfl | rfl
  · exact shw_tup key (by rw [List.length_map]; omega)
  · exact shw_lst key (by rw [List.length_map]; omega)
theorem shw_marks {ms : List Int} {hs : List Nat} {ks : List Int} (A : Along ms hs ks) (h : hs.length ≤ 100) (e : List Dat → Dat) (he : e = Dat.tup ∨ e = Dat.lst) : Shw 1 1403 (e (ks.map Dat.int)) := by
  have hk : ∀ d ∈ ks.map Dat.int, Shw 0 11 d := shw_map fun k hk => shw_int (by
    obtain ⟨u, hu⟩ := List.getElem?_of_mem hk
    have hul : u < hs.length := by have := (List.getElem?_eq_some_iff.mp hu).1; have := A.len; omega
    have h1 := List.getElem?_eq_getElem hul
    have hh := A.hb _ (List.getElem_mem hul)
    have := A.kb u hs[u] k _ h1 hu (List.getElem?_eq_getElem hh)
    have := A.g.2.2 _ (List.getElem_mem hh)
    omega)
  have hl := A.len
  rcases he with rfl | rfl
  · exact shw_tup hk (by rw [List.length_map]; omega)
  · exact shw_lst hk (by rw [List.length_map]; omega)

end
end K02

namespace K02
open PySem L2 Evl DL
local macro_rules | `(tactic| walk_at "dl") => `(tactic| first
  | with_reducible refine bnd_ok ?_ | with_reducible refine bndS_ok ?_ | with_reducible refine onE_ok ?_ | with_reducible refine seq_nx ?_ | with_reducible refine seq_rt ?_ | with_reducible refine seq_bk ?_ | with_reducible refine seq_ct ?_ | with_reducible refine onT_rt ?_ | with_reducible refine onT_bk ?_ | with_reducible refine resS_nx ?_ | with_reducible refine resS_rt ?_
  | refine ev_v rfl ?_ | refine ev_l rfl ?_ | with_reducible refine ev_i ?_ | with_reducible refine ev_n ?_ | with_reducible refine ev_b ?_ | with_reducible refine ev_s ?_
  | with_reducible refine ev_oZ0 ?_ | with_reducible refine ev_oB0 ?_ | with_reducible refine ev_oZ ?_ | with_reducible refine ev_neg ?_ | with_reducible refine ev_neI ?_ | with_reducible refine ev_eqI ?_ | with_reducible refine ev_isN ?_ | with_reducible refine ev_notN ?_ | with_reducible refine ev_chain ?_
  | with_reducible refine ev_andV ?_ | with_reducible refine ev_orV ?_ | with_reducible refine ev_notV ?_ | with_reducible refine ev_if ?_
  | with_reducible refine tv_test ?_ | with_reducible refine tv_B ?_ | with_reducible refine tv_and ?_ | with_reducible refine tv_or ?_ | with_reducible refine tv_not ?_ | with_reducible refine tv_yes ?_
  | with_reducible refine ev_isiInt ?_ | with_reducible refine ev_isiBool ?_ | with_reducible refine ev_isiSeq ?_
  | with_reducible refine av_cons ?_ | with_reducible refine av_nil ?_
  | with_reducible refine ev_pure ?_ | with_reducible refine ev_gcd ?_ | with_reducible refine ev_abs ?_ | with_reducible refine ev_int1 ?_
  | (with_reducible refine DL.ev_len ?_; refine av_cons ?_; refine ev_v rfl ?_; refine bnd_ok ?_; refine av_nil ?_; refine ⟨_, _, _, rfl, by first | rfl | assumption, ?_⟩)
  | with_reducible refine ev_fldD ?_ | with_reducible refine ev_ixS ?_
  | with_reducible refine sv_seq ?_ | with_reducible refine sv_next ?_ | with_reducible refine sv_brk ?_ | with_reducible refine sv_cont ?_ | with_reducible refine sv_ret ?_ | with_reducible refine sv_retN ?_ | with_reducible refine sv_if ?_ | with_reducible refine sv_drop ?_
  | with_reducible refine sv_asg ?_
  | refine ⟨_, rfl, fun hb => ?_, fun hb => ?_⟩
  | refine ⟨_, _, rfl, rfl, fun hb => ?_, fun hb => ?_⟩
  | refine ⟨_, _, rfl, rfl, ?_⟩
  | refine ⟨_, _, _, _, rfl, rfl, rfl, ?_⟩
  | refine ⟨_, rfl, ?_⟩ | refine ⟨_, _, rfl, ?_⟩
  | refine And.intro rfl ?_ | refine And.intro (Nat.le_of_ble_eq_true rfl) ?_ | refine And.intro (by assumption) ?_)
local macro_rules | `(tactic| walk_at "dls") => `(tactic| repeat (walk_at "dl"; all_goals try (first | (exact (nomatch ‹false = true›)) | (exact (nomatch ‹true = false›)))))
local macro_rules | `(tactic| walk_at "dla") => `(tactic| repeat' (first | (exact (nomatch ‹false = true›)) | (exact (nomatch ‹true = false›)) | walk_at "dl"))
local macro_rules | `(tactic| walk_at "dlr") => `(tactic| (refine ret_rt (pms_d _ _ (Nat.le_of_ble_eq_true rfl)) ?_))
local macro_rules | `(tactic| walk_at "dlt") => `(tactic| first | walk_at "dl" | with_reducible refine ev_tup2 ?_ | with_reducible refine ev_tup3 ?_)
local macro_rules | `(tactic| walk_at "dlts") => `(tactic| repeat walk_at "dlt")
section
variable {P : Program} {w : World} {K : PySem.W.Frag} [HasTabs K] {mg : Str → Option Value} {base : Heap} {CH CD : Addr}
abbrev s__law_none_right : Stmt := topS 42
abbrev N__law_none_right : List Str := ["box", "hands", "story", "marks", "at", "odd", "bent", "bad", "more", "many", "logs", "log", "hand"]
theorem sc__law_none_right : FnScope N__law_none_right ["box", "hands", "story", "marks"] (defScope s__law_none_right) := ⟨rfl, rfl, rfl, by decide +kernel, rfl, by decide +kernel, by decide +kernel⟩
/-- what stands for marks, and is none -/
structure BadM (bs : List Int) (x : Dat) : Prop where
  t : x.tyn.isSome = true
  a : tynAll x
  f : fitsB x bs = false
  s : Shw 2 12000 x
  l : Lay x
theorem zeros_of {n : Nat} (h : n ≤ 6) : Shw 2 12000 (.str (strRep "0" (n : Int))) ∧ Lay (.str (strRep "0" (n : Int))) := by
  have key : ∀ m : Fin 7, Shw 2 12000 (.str (strRep "0" ((m.val : Nat) : Int))) ∧ Lay (.str (strRep "0" ((m.val : Nat) : Int))) := by
    unfold Shw Nice Lay
    decide +kernel
  exact key ⟨n, by omega⟩
theorem zeros_len {n : Nat} (h : n ≤ 6) : (strRep "0" (n : Int)).length ≤ 1000000 := by
  have key : ∀ m : Fin 7, (strRep "0" ((m.val : Nat) : Int)).length ≤ 1000000 := by decide +kernel
  exact key ⟨n, by omega⟩
theorem mark_shw {ms : List Int} {hs : List Nat} {ks : List Int} (A : Along ms hs ks) : ∀ d ∈ ks.map Dat.int, Shw 0 11 d := shw_map fun k hk => shw_int (by
  obtain ⟨u, hu⟩ := List.getElem?_of_mem hk
  have hul : u < hs.length := by have := (List.getElem?_eq_some_iff.mp hu).1; have := A.len; omega
  have h1 := List.getElem?_eq_getElem hul
  have hh := A.hb _ (List.getElem_mem hul)
  have := A.kb u hs[u] k _ h1 hu (List.getElem?_eq_getElem hh)
  have := A.g.2.2 _ (List.getElem_mem hh)
  omega)
theorem bad_lst {bs : List Int} {vs : List Dat} (hs : ∀ d ∈ vs, Shw 0 11 d) (ht : ∀ d ∈ vs, d.tyn.isSome = true) (hl : ∀ d ∈ vs, Lay d) (h7 : vs.length ≤ 20) (hf : fitsL vs bs = false) : BadM bs (.lst vs) :=
  ⟨rfl, ⟨by omega, ht⟩, hf, ((shw_lst hs (show vs.length * 11 + 2 * vs.length + 3 ≤ 12000 by omega)).up (by decide)), lay_lst hl⟩
theorem bads_of {ms : List Int} {hs : List Nat} {ks : List Int} (A : Along ms hs ks) (h6 : hs.length ≤ 6) : ∀ x ∈ [Dat.non, .int 0, .lst (ks.map Dat.int ++ [.int 0]), .str (strRep "0" (hs.length : Int))], BadM (hs.map fun h => ms.getD h 0) x := fun x hx => by
  have hkl := A.len
  rcases List.mem_cons.mp hx with rfl | hx
  · exact ⟨rfl, trivial, rfl, ⟨nice_non, rfl, by decide +kernel⟩, lay_non⟩
  · rcases List.mem_cons.mp hx with rfl | hx
    · exact ⟨rfl, trivial, rfl, (shw_int (by decide)).le (by decide), lay_int _⟩
    · rcases List.mem_cons.mp hx with rfl | hx
      · refine bad_lst (fun d hd => ?_) (fun d hd => ?_) (fun d hd => ?_) ?_ ?_
        · rcases List.mem_append.mp hd with z | z
          · exact mark_shw A d z
          · rw [List.mem_singleton.mp z]
            exact shw_int (by decide)
        · rcases List.mem_append.mp hd with z | z
          · obtain ⟨k, _, rfl⟩ := List.mem_map.mp z
            rfl
          · rw [List.mem_singleton.mp z]
            rfl
        · rcases List.mem_append.mp hd with z | z
          · obtain ⟨k, _, rfl⟩ := List.mem_map.mp z
            exact lay_int _
          · rw [List.mem_singleton.mp z]
            exact lay_int _
        · rw [List.length_append, List.length_map]; show _ + 1 ≤ _; omega
        · unfold fitsL
          rw [decide_eq_false (by rw [List.length_append, List.length_map, List.length_map]; show ¬ (_ + 1 = _); omega), Bool.false_and]
      · rcases List.mem_cons.mp hx with rfl | hx
        · obtain ⟨z1, z2⟩ := zeros_of h6
          exact ⟨rfl, trivial, rfl, z1, z2⟩
        · cases hx
theorem fits_bad {vs : List Dat} {bs : List Int} {j : Nat} {x : Dat} {b : Int} (h1 : vs[j]? = some x) (h2 : bs[j]? = some b) (h : isBelow x b = false) : fitsL vs bs = false := by
  unfold fitsL
  refine Bool.and_eq_false_imp.mpr fun _ => ?_
  refine Bool.eq_false_iff.mpr fun z => ?_
  have hz : (vs.zip bs)[j]? = some (x, b) := List.getElem?_zip_eq_some.mpr ⟨h1, h2⟩
  have := List.all_eq_true.mp z _ (List.mem_of_getElem? hz)
  rw [show isBelow (x, b).1 (x, b).2 = isBelow x b from rfl, h] at this
  cases this
theorem cut_take (xs : List Dat) (h : Nat) : cutD xs none (some (h : Int)) = xs.take h := by
  unfold cutD
  rw [show HT.sIx xs.length 0 none = 0 from rfl, HT.sIx_nat, List.drop_zero, Nat.sub_zero]
  by_cases c : h ≤ xs.length
  · rw [Nat.min_eq_left c]
  · rw [Nat.min_eq_right (by omega), List.take_length, List.take_of_length_le (by omega)]
theorem cut_drop (xs : List Dat) (h : Nat) (hh : h ≤ xs.length) : cutD xs (some (h : Int)) none = xs.drop h := by
  unfold cutD
  rw [show HT.sIx xs.length xs.length none = xs.length from rfl, HT.sIx_nat, Nat.min_eq_left hh]
  exact List.take_of_length_le (by rw [List.length_drop]; exact Nat.le_refl _)
/-- one wrong item put between hands -/
theorem bent_at {hs : List Nat} {n : Int} {j : Nat} {x : Dat} (hj : j ≤ hs.length) (hb : ∀ h ∈ hs, (h : Int) < n) (hx : isBelow x n = false) : Bent ((hs.map fun (h : Nat) => Dat.int h).take j ++ [x] ++ (hs.map fun (h : Nat) => Dat.int h).drop j) n j := by
  have hl : ((hs.map fun (h : Nat) => Dat.int h).take j).length = j := by rw [List.length_take, List.length_map]; omega
  refine ⟨fun i y hi hy => ?_, x, ?_, hx⟩
  · rw [List.append_assoc, List.getElem?_append_left (by omega), List.getElem?_take_of_lt hi, List.getElem?_map] at hy
    cases e : hs[i]? with
    | none => rw [e] at hy; exact nomatch hy
    | some h =>
      rw [e] at hy
      cases hy
      exact isBelow_int ⟨by omega, hb h (List.mem_of_getElem? e)⟩
  · rw [List.append_assoc, List.getElem?_append_right (by omega), hl, Nat.sub_self]
    rfl
/-- an entry more, or one fewer -/
def chg (more : Int) (r : List Int) : List Int := if more = 1 then r ++ [0] else r.dropLast
theorem chg_len {more : Int} {r : List Int} (h : 0 < r.length) : (chg more r).length ≠ r.length ∧ (chg more r).length ≤ r.length + 1 := by
  unfold chg
  by_cases e : more = 1
  · rw [if_pos e, List.length_append]
    show _ + 1 ≠ _ ∧ _ + 1 ≤ _
    omega
  · rw [if_neg e, List.length_dropLast]
    omega
theorem RowsIn.chg {ms : List Int} {rows : List (List Int)} (R : RowsIn ms rows) (g : Good ms) {h : Nat} {r : List Int} (e : rows[h]? = some r) (hs : r.length ≤ 100) (more : Int) : RowsIn ms (rows.set h (chg more r)) := by
  refine ⟨by rw [List.length_set]; exact R.len, fun j q m e1 e2 k hk => ?_, fun q hq => ?_⟩
  · by_cases c : h = j
    · subst c
      rw [List.getElem?_set_self (List.getElem?_eq_some_iff.mp e).1] at e1
      cases e1
      unfold K02.chg at hk
      by_cases z : more = 1
      · rw [if_pos z] at hk
        rcases List.mem_append.mp hk with y | y
        · exact R.inm h r m e e2 k y
        · rw [List.mem_singleton.mp y]
          have := g.2.2 m (List.mem_of_getElem? e2)
          omega
      · rw [if_neg z, List.dropLast_eq_take] at hk
        exact R.inm h r m e e2 k (List.mem_of_mem_take hk)
    · rw [List.getElem?_set_ne c] at e1
      exact R.inm j q m e1 e2 k hk
  · rcases List.mem_or_eq_of_mem_set hq with y | rfl
    · exact R.few q y
    · unfold K02.chg
      by_cases z : more = 1
      · rw [if_pos z, List.length_append]
        show _ + 1 ≤ _
        omega
      · rw [if_neg z, List.length_dropLast]
        omega
theorem range_getD (l : List (List Int)) (f : List Int → Dat) : (List.range l.length).map (fun u => f (l.getD u [])) = l.map f := by
  refine List.ext_getElem? fun j => ?_
  rw [List.getElem?_map, List.getElem?_map]
  by_cases z : j < l.length
  · rw [List.getElem?_range z, List.getElem?_eq_getElem z]
    show some (f (l.getD j [])) = some (f l[j])
    rw [List.getD_eq_getElem?_getD, List.getElem?_eq_getElem z]
    rfl
  · rw [List.getElem?_eq_none (by rw [List.length_range]; omega), List.getElem?_eq_none (by omega)]
    rfl
structure Odd (x : Dat) (n : Int) : Prop where
  b : isBelow x n = false
  t : x.tyn.isSome = true
  s : Shw 0 11 x
  l : Lay x
theorem odd_of {n : Int} (hn : n.natAbs ≤ 1000) {x : Dat} (hx : x ∈ [Dat.int n, .int (0 - 1), .bl true, .non]) : Odd x n := by
  rcases List.mem_cons.mp hx with rfl | hx
  · exact ⟨by show (decide (0 ≤ n) && decide (n < n)) = false; rw [decide_eq_false (Int.lt_irrefl n), Bool.and_false], rfl, shw_int (by omega), lay_int _⟩
  · rcases List.mem_cons.mp hx with rfl | hx
    · exact ⟨rfl, rfl, shw_int (by decide), lay_int _⟩
    · rcases List.mem_cons.mp hx with rfl | hx
      · exact ⟨rfl, rfl, ⟨nice_bl _, rfl, by decide +kernel⟩, lay_bl _⟩
      · rcases List.mem_cons.mp hx with rfl | hx
        · exact ⟨rfl, rfl, ⟨nice_non, rfl, by decide +kernel⟩, lay_non⟩
        · cases hx
def R_law_none_right (CH : Addr) : Pr := fun os Pp => ∃ (a : Addr) (g s c : Int) (ms : List Int) (hs : List Nat) (ks : List Int), os = [boxO a g s c, .d (hObj CH ms), .d (.lst (hs.map fun (h : Nat) => Dat.int h)), .d (.lst (ks.map Dat.int))] ∧ Along ms hs ks ∧ hs.length ≤ 6 ∧ ∀ g' s' c', Pp (.ok (.d (.bl true))) [boxO a g' s' c', .d (hObj CH ms), .d (.lst (hs.map fun (h : Nat) => Dat.int h)), .d (.lst (ks.map Dat.int))]
theorem R_law_none_right_noex (CH : Addr) (os : List Ow) (Pp : Re → List Ow → Prop) (h : R_law_none_right CH os Pp) : R_law_none_right CH os (fun r us => (match r with | .ok _ => True | .ex _ _ => False) ∧ Pp r us) := by
  obtain ⟨a, g, s, c, ms, hs, ks, h1, h2, h3, q⟩ := h
  exact ⟨a, g, s, c, ms, hs, ks, h1, h2, h3, fun g' s' c' => ⟨trivial, q g' s' c'⟩⟩
theorem ok__law_none_right {CS CL CR CN CE c PT : Addr} (T : Txt mg) (Hd : HeardB K mg CS CL CR CN CE) (LH : ClHands K CH) (D__law_heard : Dfn K mg "_law_heard" "_law_heard" s__law_heard ["ask"])
    (TB : LamX.TabB base mg c PT) (hmT : (PT, ("_law_none_right.<locals>.<lambda>" : Str)) ∈ HasTabs.tt K) (hu : ∀ p ∈ HasTabs.tt K, p.1 = PT → p.2 = ("_law_none_right.<locals>.<lambda>" : Str))
    (O__law_take : Ok P w K mg base 1 "_law_take" ["box", "many"] R_law_take) (O__law_pick : Ok P w K mg base 2 "_law_pick" ["box", "some"] R_law_pick) (O__law_logs : Ok P w K mg base 1 "_law_logs" ["many", "story", "marks"] (pureR R_law_logs))
    (OX_laid_logs : OkX P w K mg base 5 "laid_logs" ["hands", "story", "marks"] (R_laid_logsX CH CS CR)) (OX_marks_along : OkX P w K mg base 6 "marks_along" ["hands", "story", "logs"] (R_marks_alongX CH CS CL CR)) (OX_struck_logs : OkX P w K mg base 6 "struck_logs" ["hands", "logs", "hand"] (R_struck_logsX CH CN CL CR))
    (F : DfnC K mg "_law_none_right" "_law_none_right" s__law_none_right ["box", "hands", "story", "marks"] c) : OkG P w K mg base 9 "_law_none_right" ["box", "hands", "story", "marks"] (R_law_none_right CH) := by
  refine F.okG sc__law_none_right (by decide) (fun os Pp h => ?_) (R_law_none_right_noex CH) (fun f A outer s H E hgd hr => ⟨_, (pss_cons (ps_asg (pe_tup (pa_cons (pe_fldK (K := K) rfl (pv 1) rfl) (pa_cons (pe_fn O__law_logs ⟨rfl, rfl, rfl, rfl, rfl⟩ (hr.mono (by decide)) rfl (pa_cons (pe_fldK (K := K) rfl (pv 1) rfl) (pa_cons (pv 2) (pa_cons (pv 3) pa_nil)))) pa_nil))) (pg_tup rfl (pgs_cons (pg_name (i := 9) sc__law_none_right.nd rfl (.inl rfl)) (pgs_cons (pg_name (i := 10) sc__law_none_right.nd rfl (.inr rfl)) pgs_nil)))) (pss_cons (ps_set (i := 4) sc__law_none_right.nd rfl (.inr rfl) (pe_fn O__law_take ⟨rfl, rfl, rfl, rfl, rfl⟩ (hr.mono (by decide)) rfl (pa_cons (pv 0) (pa_cons (pe_op op_add (pe_callB (r := rLenQ K) call_len_seq (by rfl) T.b_len (by decide +kernel) (pa_cons (pv 2) pa_nil)) pe_int) pa_nil)))) (pss_cons (ps_set (i := 5) sc__law_none_right.nd rfl (.inr rfl) (pe_fn O__law_pick ⟨rfl, rfl, rfl, rfl, rfl⟩ (hr.mono (by decide)) rfl (pa_cons (pv 0) (pa_cons (pe_lst (pa_cons (pv 9) (pa_cons (pe_op op_sub pe_int pe_int) (pa_cons pe_bl (pa_cons pe_non pa_nil))))) pa_nil)))) (pss_cons (ps_set (i := 6) sc__law_none_right.nd rfl (.inr rfl) (pe_op op_cat (pe_op op_cat (pe_callTy (r := rListO K) call_list_of (by rfl) T.b_list (by decide +kernel) (pa_cons (pe_slice (r := rSlL K) sl_list (pv 2) po_none (po_some (pv 4))) pa_nil)) (pe_lst (pa_cons (pv 5) pa_nil))) (pe_callTy (r := rListO K) call_list_of (by rfl) T.b_list (by decide +kernel) (pa_cons (pe_slice (r := rSlL K) sl_list (pv 2) (po_some (pv 4)) po_none) pa_nil)))) (pss_cons (ps_if (pt_cmpR (r := rNeD K) (op_neD (units64 hr)) (pe_lam (K := K) (mg := mg) (T := HasTabs.tt K) (k := 6) ⟨rfl, rfl⟩ D__law_heard sc__law_heard (.inl rfl) (heard_rule (k := 6) hgd (hr.mono (by decide)) (K := K) (mg := mg) T Hd ⟨rfl, rfl⟩) TB rfl hmT hu (hr.mono (by decide)) rfl (LamX.lamS_by (show LamX.lamSB (defScope s__law_none_right) _ = true by decide +kernel)) (fun A outer s H E f c' hr => (pe_fnX (E := E) OX_laid_logs (takes_of rfl rfl rfl rfl) ⟨rfl, rfl, rfl, rfl, rfl⟩ (hr.mono (by decide)) rfl (pa_cons (pv 1) (pa_cons (pv 6) (pa_cons pe_non pa_nil)))))) (pe_tup (pa_cons pe_str (pa_cons (pv 4) pa_nil))) (nomark _)) (pss_one (ps_ret pe_bl)) pss_nil) (pss_cons (ps_if (pt_cmpR (r := rNeD K) (op_neD (units64 hr)) (pe_lam (K := K) (mg := mg) (T := HasTabs.tt K) (k := 6) ⟨rfl, rfl⟩ D__law_heard sc__law_heard (.inl rfl) (heard_rule (k := 6) hgd (hr.mono (by decide)) (K := K) (mg := mg) T Hd ⟨rfl, rfl⟩) TB rfl hmT hu (hr.mono (by decide)) rfl (LamX.lamS_by (show LamX.lamSB (defScope s__law_none_right) _ = true by decide +kernel)) (fun A outer s H E f c' hr => (pe_fnX (E := E) OX_marks_along (takes_of rfl rfl rfl rfl) ⟨rfl, rfl, rfl, rfl, rfl⟩ (hr.mono (by decide)) rfl (pa_cons (pv 1) (pa_cons (pv 6) (pa_cons pe_non pa_nil)))))) (pe_tup (pa_cons pe_str (pa_cons (pv 4) pa_nil))) (nomark _)) (pss_one (ps_ret pe_bl)) pss_nil) (pss_cons (ps_if (pt_cmpR (r := rNeD K) (op_neD (units64 hr)) (pe_lam (K := K) (mg := mg) (T := HasTabs.tt K) (k := 6) ⟨rfl, rfl⟩ D__law_heard sc__law_heard (.inl rfl) (heard_rule (k := 6) hgd (hr.mono (by decide)) (K := K) (mg := mg) T Hd ⟨rfl, rfl⟩) TB rfl hmT hu (hr.mono (by decide)) rfl (LamX.lamS_by (show LamX.lamSB (defScope s__law_none_right) _ = true by decide +kernel)) (fun A outer s H E f c' hr => (pe_fnX (E := E) OX_marks_along (takes_of rfl rfl rfl rfl) ⟨rfl, rfl, rfl, rfl, rfl⟩ (hr.mono (by decide)) rfl (pa_cons (pv 1) (pa_cons (pv 2) (pa_cons pe_non pa_nil)))))) (pe_tup (pa_cons pe_str (pa_cons (pe_op op_sub pe_int pe_int) pa_nil))) (nomark _)) (pss_one (ps_ret pe_bl)) pss_nil) (pss_cons (ps_if (pt_cmpR (r := rNeD K) (op_neD (units64 hr)) (pe_lam (K := K) (mg := mg) (T := HasTabs.tt K) (k := 6) ⟨rfl, rfl⟩ D__law_heard sc__law_heard (.inl rfl) (heard_rule (k := 6) hgd (hr.mono (by decide)) (K := K) (mg := mg) T Hd ⟨rfl, rfl⟩) TB rfl hmT hu (hr.mono (by decide)) rfl (LamX.lamS_by (show LamX.lamSB (defScope s__law_none_right) _ = true by decide +kernel)) (fun A outer s H E f c' hr => (pe_fnX (E := E) OX_struck_logs (takes_of rfl rfl rfl rfl) ⟨rfl, rfl, rfl, rfl, rfl⟩ (hr.mono (by decide)) rfl (pa_cons (pv 1) (pa_cons (pe_slice (r := rSlA K) sl_tupA (pv 10) (po_some pe_int) po_none) (pa_cons pe_non pa_nil)))))) (pe_tup (pa_cons pe_str (pa_cons (pe_op op_sub pe_int pe_int) pa_nil))) (nomark _)) (pss_one (ps_ret pe_bl)) pss_nil) (pss_cons (ps_if (pt_cmpR (r := rNeD K) (op_neD (units64 hr)) (pe_lam (K := K) (mg := mg) (T := HasTabs.tt K) (k := 6) ⟨rfl, rfl⟩ D__law_heard sc__law_heard (.inl rfl) (heard_rule (k := 6) hgd (hr.mono (by decide)) (K := K) (mg := mg) T Hd ⟨rfl, rfl⟩) TB rfl hmT hu (hr.mono (by decide)) rfl (LamX.lamS_by (show LamX.lamSB (defScope s__law_none_right) _ = true by decide +kernel)) (fun A outer s H E f c' hr => (pe_fnX (E := E) OX_struck_logs (takes_of rfl rfl rfl rfl) ⟨rfl, rfl, rfl, rfl, rfl⟩ (hr.mono (by decide)) rfl (pa_cons (pv 1) (pa_cons (pv 10) (pa_cons (pv 5) pa_nil)))))) (pe_tup (pa_cons pe_str (pa_cons (pe_callB (r := rReprD K) (call_reprD hgd (units65 hr)) (by rfl) T.b_repr (by decide +kernel) (pa_cons (pv 5) pa_nil)) pa_nil))) (nomark _)) (pss_one (ps_ret pe_bl)) pss_nil) (pss_cons (ps_for PassesOwn.never rfl (pi_anyK (K := K) rfl (pe_tup (pa_cons pe_non (pa_cons pe_int (pa_cons (pe_op op_cat (pe_callTy (r := rListO K) call_list_of (by rfl) T.b_list (by decide +kernel) (pa_cons (pv 3) pa_nil)) (pe_lst (pa_cons pe_int pa_nil))) (pa_cons (pe_op op_repS pe_str (pe_callB (r := rLenQ K) call_len_seq (by rfl) T.b_len (by decide +kernel) (pa_cons (pv 2) pa_nil))) pa_nil)))))) (pg_name (i := 7) sc__law_none_right.nd rfl (.inr rfl)) (pss_one (ps_if (pt_cmpR (r := rNeD K) (op_neD (units64 hr)) (pe_lam (K := K) (mg := mg) (T := HasTabs.tt K) (k := 6) ⟨rfl, rfl⟩ D__law_heard sc__law_heard (.inl rfl) (heard_rule (k := 6) hgd (hr.mono (by decide)) (K := K) (mg := mg) T Hd ⟨rfl, rfl⟩) TB rfl hmT hu (hr.mono (by decide)) rfl (LamX.lamS_by (show LamX.lamSB (defScope s__law_none_right) _ = true by decide +kernel)) (fun A outer s H E f c' hr => (pe_fnX (E := E) OX_laid_logs (takes_of rfl rfl rfl rfl) ⟨rfl, rfl, rfl, rfl, rfl⟩ (hr.mono (by decide)) rfl (pa_cons (pv 1) (pa_cons (pv 2) (pa_cons (pv 7) pa_nil)))))) (pe_tup (pa_cons pe_str (pa_cons (pe_callB (r := rReprD K) (call_reprD hgd (units65 hr)) (by rfl) T.b_repr (by decide +kernel) (pa_cons (pv 7) pa_nil)) (pa_cons pe_bl pa_nil)))) (nomark _)) (pss_one (ps_ret pe_bl)) pss_nil))) (pss_cons (ps_if (pt_cmpR op_eq (pe_callB (r := rLenQ K) call_len_seq (by rfl) T.b_len (by decide +kernel) (pa_cons (pv 2) pa_nil)) pe_int (nomark _)) (pss_one (ps_ret pe_bl)) pss_nil) (pss_cons (ps_set (i := 4) sc__law_none_right.nd rfl (.inr rfl) (pe_fn O__law_take ⟨rfl, rfl, rfl, rfl, rfl⟩ (hr.mono (by decide)) rfl (pa_cons (pv 0) (pa_cons (pe_callB (r := rLenQ K) call_len_seq (by rfl) T.b_len (by decide +kernel) (pa_cons (pv 2) pa_nil)) pa_nil)))) (pss_cons (ps_set (i := 7) sc__law_none_right.nd rfl (.inr rfl) (pe_op op_cat (pe_op op_cat (pe_callTy (r := rListO K) call_list_of (by rfl) T.b_list (by decide +kernel) (pa_cons (pe_slice (r := rSlL K) sl_list (pv 3) po_none (po_some (pv 4))) pa_nil)) (pe_lst (pa_cons (pe_fn O__law_pick ⟨rfl, rfl, rfl, rfl, rfl⟩ (hr.mono (by decide)) rfl (pa_cons (pv 0) (pa_cons (pe_lst (pa_cons (pe_ix (r := rIx K) ix_seq (pe_fldK (K := K) rfl (pv 1) rfl) (pe_ix (r := rIx K) ix_seq (pv 2) (pv 4) (fun _ _ => rfl)) (fun _ _ => rfl)) (pa_cons (pe_op op_sub pe_int pe_int) (pa_cons pe_bl (pa_cons pe_non pa_nil))))) pa_nil))) pa_nil))) (pe_callTy (r := rListO K) call_list_of (by rfl) T.b_list (by decide +kernel) (pa_cons (pe_slice (r := rSlL K) sl_list (pv 3) (po_some (pe_op op_add (pv 4) pe_int)) po_none) pa_nil)))) (pss_cons (ps_if (pt_cmpR (r := rNeD K) (op_neD (units64 hr)) (pe_lam (K := K) (mg := mg) (T := HasTabs.tt K) (k := 6) ⟨rfl, rfl⟩ D__law_heard sc__law_heard (.inl rfl) (heard_rule (k := 6) hgd (hr.mono (by decide)) (K := K) (mg := mg) T Hd ⟨rfl, rfl⟩) TB rfl hmT hu (hr.mono (by decide)) rfl (LamX.lamS_by (show LamX.lamSB (defScope s__law_none_right) _ = true by decide +kernel)) (fun A outer s H E f c' hr => (pe_fnX (E := E) OX_laid_logs (takes_of rfl rfl rfl rfl) ⟨rfl, rfl, rfl, rfl, rfl⟩ (hr.mono (by decide)) rfl (pa_cons (pv 1) (pa_cons (pv 2) (pa_cons (pv 7) pa_nil)))))) (pe_tup (pa_cons pe_str (pa_cons (pe_callB (r := rReprD K) (call_reprD hgd (units65 hr)) (by rfl) T.b_repr (by decide +kernel) (pa_cons (pv 7) pa_nil)) (pa_cons pe_bl pa_nil)))) (nomark _)) (pss_one (ps_ret pe_bl)) pss_nil) (pss_cons (ps_for PassesOwn.never rfl (pi_anyK (K := K) rfl (pe_tup (pa_cons pe_int (pa_cons pe_int pa_nil)))) (pg_name (i := 8) sc__law_none_right.nd rfl (.inr rfl)) (pss_cons (ps_set (i := 7) sc__law_none_right.nd rfl (.inr rfl) (pe_lc (own := [("log", 11)]) (g := gName 11) (tt := tYes) rfl sc__law_none_right.nd (pi_anyK (K := K) rfl (pv 10)) (blkOk_by (own := [("log", 11)]) (N := N__law_none_right) (sc := defScope s__law_none_right) (by decide +kernel)) (fun _ _ _ _ _ => (pg_name (i := 11) sc__law_none_right.nd rfl (.inl rfl))) (fun _ _ _ _ _ => pts_nil) (fun _ _ _ _ _ => (pe_ifExp (pt_cmpR op_eq (pv 8) pe_int (nomark _)) (pe_op (r := rCatA K) op_catA (pv 11) (pe_tup (pa_cons pe_int pa_nil))) (pe_slice (r := rSlA K) sl_tupA (pv 11) po_none (po_some (pe_un un_neg pe_int))))))) (pss_cons (ps_set (i := 7) sc__law_none_right.nd rfl (.inr rfl) (pe_lc (own := [("hand", 12)]) (g := gName 12) (tt := tYes) rfl sc__law_none_right.nd (pi_range1 (by rfl) T.b_range (pa_cons (pv 9) pa_nil)) (blkOk_by (own := [("hand", 12)]) (N := N__law_none_right) (sc := defScope s__law_none_right) (by decide +kernel)) (fun _ _ _ _ _ => (pg_name (i := 12) sc__law_none_right.nd rfl (.inl rfl))) (fun _ _ _ _ _ => pts_nil) (fun _ _ _ _ _ => (pe_ifExp (pt_cmpR op_eq (pv 12) (pe_ix (r := rIx K) ix_seq (pv 2) (pv 4) (fun _ _ => rfl)) (nomark _)) (pe_ix (r := rIx K) ix_seq (pv 7) (pv 12) (fun _ _ => rfl)) (pe_ix (r := rIx K) ix_seq (pv 10) (pv 12) (fun _ _ => rfl)))))) (pss_one (ps_if (pt_cmpR (r := rNeD K) (op_neD (units64 hr)) (pe_lam (K := K) (mg := mg) (T := HasTabs.tt K) (k := 6) ⟨rfl, rfl⟩ D__law_heard sc__law_heard (.inl rfl) (heard_rule (k := 6) hgd (hr.mono (by decide)) (K := K) (mg := mg) T Hd ⟨rfl, rfl⟩) TB rfl hmT hu (hr.mono (by decide)) rfl (LamX.lamS_by (show LamX.lamSB (defScope s__law_none_right) _ = true by decide +kernel)) (fun A outer s H E f c' hr => (pe_fnX (E := E) OX_marks_along (takes_of rfl rfl rfl rfl) ⟨rfl, rfl, rfl, rfl, rfl⟩ (hr.mono (by decide)) rfl (pa_cons (pv 1) (pa_cons (pv 2) (pa_cons (pv 7) pa_nil)))))) (pe_tup (pa_cons pe_str (pa_cons (pe_callB (r := rReprD K) (call_reprD hgd (units65 hr)) (by rfl) T.b_repr (by decide +kernel) (pa_cons (pv 7) pa_nil)) (pa_cons pe_bl pa_nil)))) (nomark _)) (pss_one (ps_ret pe_bl)) pss_nil))))) (pss_one (ps_ret pe_bl))))))))))))))))), fun os Pp h => ?_⟩)
  · obtain ⟨a, g, sd, c, ms, hs, ks, rfl, q⟩ := h
    rfl
  · obtain ⟨a, g, sd, c, ms, hs, ks, rfl, hA, hl, q⟩ := h
    have hg := hA.g
    have hm8 := hg.2.1
    have hkl := hA.len
    show SvP K E0 _ [some (boxO a g sd c), some (.d (hObj CH ms)), some (.d (.lst (hs.map fun (h : Nat) => Dat.int h))), some (.d (.lst (ks.map Dat.int))), none, none, none, none, none, none, none, none, none] _
    have hR := hA.rows (by omega)
    obtain ⟨rows, hrows⟩ : ∃ rows, rows = rowsP ms.length (hs.zip ks) := ⟨_, rfl⟩
    rw [← hrows] at hR
    have hrl := hR.len
    have hg2 := hg.1
    have nS : ∀ t : String, Nice 0 (.str (Str.ofString t)) := fun t => ⟨rfl, laid_of t, Nat.zero_le _⟩
    have n2 : ∀ (t : String) (x : Dat), Nice 0 x → Nice 1 (.tup [.str (Str.ofString t), x]) := fun t x hx => nice_tup (n := 0) (fun y hy => by
      rcases List.mem_cons.mp hy with rfl | hy
      · exact nS t
      · rcases List.mem_cons.mp hy with rfl | hy
        · exact hx
        · cases hy)
    have n3 : ∀ (t : String) (x : Dat), Nice 0 x → Nice 1 (.tup [.str (Str.ofString t), x, .bl true]) := fun t x hx => nice_tup (n := 0) (fun y hy => by
      rcases List.mem_cons.mp hy with rfl | hy
      · exact nS t
      · rcases List.mem_cons.mp hy with rfl | hy
        · exact hx
        · rcases List.mem_cons.mp hy with rfl | hy
          · exact nice_bl _
          · cases hy)
    refine sv_seq (sv_asgG (ws := [9] ++ ([10] ++ [])) (ev_tup2 (ev_fldD (ev_v rfl (bnd_ok ⟨_, _, _, rfl, LH.c, LH.n, rfl, ?_⟩)))))
    refine bnd_ok ⟨_, rfl, ev_pure ?_⟩
    refine av_cons (ev_fldD (ev_v rfl (bnd_ok ⟨_, _, _, rfl, LH.c, LH.n, rfl, ?_⟩)))
    refine bnd_ok (av_cons (ev_v rfl (bnd_ok (av_cons (ev_v rfl (bnd_ok (av_nil ?_)))))))
    refine ⟨[.int ms.length, _, _], _, rfl, ⟨ms.length, _, false, hs, _, false, ks, rfl, hm8, rfl, rfl, hkl, by omega, rfl⟩, ?_⟩
    rw [← hrows]
    refine bnd_ok ⟨_, rfl, ?_⟩
    refine bndS_ok ⟨_, rfl, ?_⟩
    refine gv_tup rfl (gs_cons (gv_name (Nat.le_of_ble_eq_true rfl) (gs_cons (gv_name (Nat.le_of_ble_eq_true rfl) (gs_nil ?_)))))
    refine seq_nx ?_
    simp only [List.set]
    -- at
    refine sv_seq (sv_asg (ev_call (av_cons (ev_l rfl (bnd_ok (av_cons ?_))))))
    refine ev_oZ0 (DL.ev_len (av_cons (ev_v rfl (bnd_ok (av_nil ⟨_, _, _, rfl, rfl, ?_⟩)))))
    rw [List.length_map]
    refine bnd_ok (ev_i (bnd_ok ⟨_, _, rfl, rfl, ?_⟩))
    refine bnd_ok (av_nil ⟨a, g, sd, c, _, rfl, by omega, by omega, fun v g1 s1 c1 v0 v1 => ?_⟩)
    obtain ⟨j, rfl⟩ : ∃ j : Nat, v = (j : Int) := ⟨v.toNat, by omega⟩
    have hj : j ≤ hs.length := by omega
    simp only [bks, bk, List.set, bkG_d, bkG_at, bkG_n]
    refine bndS_ok ⟨Nat.le_of_ble_eq_true rfl, seq_nx ?_⟩
    simp only [List.set]
    -- odd
    refine sv_seq (sv_asg (ev_call (av_cons (ev_l rfl (bnd_ok (av_cons (DL.ev_lst ?_)))))))
    refine av_cons (ev_v rfl (bnd_ok (av_cons (ev_oZ0 (ev_i (bnd_ok (ev_i (bnd_ok ⟨_, _, rfl, rfl, ?_⟩))))))))
    refine bnd_ok (av_cons (ev_b (bnd_ok (av_cons (ev_n (bnd_ok (av_nil ⟨[.int ms.length, .int (0 - 1), .bl true, .non], rfl, Nat.le_of_ble_eq_true rfl, ?_⟩)))))))
    refine bnd_ok (av_nil ⟨a, g1, s1, c1, _, rfl, Nat.le_of_ble_eq_true rfl, Nat.le_of_ble_eq_true rfl, fun odd hodd g2 s2 c2 => ?_⟩)
    have hO := odd_of (n := (ms.length : Int)) (by omega) hodd
    simp only [bks, bk, List.set, bkG_d, bkG_at, bkG_n]
    refine bndS_ok ⟨Nat.le_of_ble_eq_true rfl, seq_nx ?_⟩
    simp only [List.set]
    -- bent
    refine sv_seq (sv_asg (ev_cat (ev_cat ?_)))
    refine ev_frzD (DL.ev_lstD (av_cons (ev_slU (ev_v rfl (bnd_ok ⟨_, rfl, ev_v rfl (bnd_ok ⟨_, rfl, ?_⟩)⟩)))))
    rw [cut_take]
    refine bnd_ok (av_nil ⟨_, _, _, rfl, rfl, by rw [List.length_take, List.length_map]; omega, fun b1 => ⟨okRs_map _, ?_⟩⟩)
    show bnd _ _ (.ok (.d (.lst (dats _)))) _
    rw [dats_map]
    refine bnd_ok (DL.ev_lst (av_cons (ev_v rfl (bnd_ok (av_nil ⟨[odd], rfl, Nat.le_of_ble_eq_true rfl, ?_⟩)))))
    refine bnd_ok ⟨_, _, .d rfl, .d rfl, ?_, ?_⟩
    · rw [List.length_take, List.length_map]; show _ + 1 ≤ _; omega
    refine bnd_ok ?_
    refine ev_frzD (DL.ev_lstD (av_cons (ev_slL (ev_v rfl (bnd_ok ⟨_, rfl, ev_v rfl (bnd_ok ⟨_, rfl, ?_⟩)⟩)))))
    rw [cut_drop _ _ (by rw [List.length_map]; exact hj)]
    refine bnd_ok (av_nil ⟨_, _, _, rfl, rfl, by rw [List.length_drop, List.length_map]; omega, fun b2 => ⟨okRs_map _, ?_⟩⟩)
    show bnd _ _ (.ok (.d (.lst (dats _)))) _
    rw [dats_map]
    refine bnd_ok ⟨_, _, .d rfl, .d rfl, ?_, ?_⟩
    · rw [List.length_append, List.length_take, List.length_drop, List.length_map]; show _ + 1 + _ ≤ _; omega
    have hB := bent_at (n := (ms.length : Int)) hj (fun h hh => by have := hA.hb h hh; omega) hO.b
    have hBl : ((hs.map fun (h : Nat) => Dat.int h).take j ++ [odd] ++ (hs.map fun (h : Nat) => Dat.int h).drop j).length ≤ 10000 := by
      rw [List.length_append, List.length_append, List.length_take, List.length_drop, List.length_map]; show _ + 1 + _ ≤ _; omega
    have hBt : ∀ x ∈ (hs.map fun (h : Nat) => Dat.int h).take j ++ [odd] ++ (hs.map fun (h : Nat) => Dat.int h).drop j, x.tyn.isSome = true := fun x hx => by
      rcases List.mem_append.mp hx with z | z
      · rcases List.mem_append.mp z with z | z
        · obtain ⟨h, _, rfl⟩ := List.mem_map.mp (List.mem_of_mem_take z)
          rfl
        · rw [List.mem_singleton.mp z]
          exact hO.t
      · obtain ⟨h, _, rfl⟩ := List.mem_map.mp (List.mem_of_mem_drop z)
        rfl
    generalize (hs.map fun (h : Nat) => Dat.int h).take j ++ [odd] ++ (hs.map fun (h : Nat) => Dat.int h).drop j = bt at hB hBl hBt
    simp only [bks, bk, List.set, bkG_d, bkG_at, bkG_n]
    refine bndS_ok ⟨Nat.le_of_ble_eq_true rfl, seq_nx ?_⟩
    simp only [List.set]
    -- laid_logs of a bent story
    refine sv_seq (sv_if (tv_test (ev_neD (ev_many Hd.ap Hd.ne (fun E' => ?_)))))
    refine ev_call (av_cons (ev_v rfl (bnd_ok (av_cons (ev_v rfl (bnd_ok (av_cons (ev_n (bnd_ok (av_nil ?_))))))))))
    refine ⟨ms, .lst bt, false, bt, .non, rfl, hg, rfl, rfl, hBl, hBt, rfl, .inl ⟨j, hB, ?_⟩⟩
    obtain ⟨cl, hc1, hc2, hc3⟩ := Hd.story (.int j)
    refine ⟨cl, hc1, hc2, _, hc3, ?_⟩
    refine bnd_ok (ev_tup2 (ev_s (bnd_ok ⟨_, rfl, ev_v rfl (bnd_ok ⟨_, rfl, ?_⟩)⟩)))
    refine bnd_ok ⟨_, _, true, rfl, rfl, (n2 _ _ (nice_int _)).two (n2 _ _ (nice_int _)) (by decide) (by decide), (n2 _ _ (nice_int _)).same, ?_⟩
    refine bnd_ok ⟨_, rfl, ?_⟩
    refine bndS_ok ⟨_, rfl, fun h => absurd h (by decide), fun _ => ?_⟩
    refine sv_next (seq_nx ?_)
    try simp only [bks, bk]
    -- marks_along of a bent story
    refine sv_seq (sv_if (tv_test (ev_neD (ev_many Hd.ap Hd.ne (fun E' => ?_)))))
    refine ev_call (av_cons (ev_v rfl (bnd_ok (av_cons (ev_v rfl (bnd_ok (av_cons (ev_n (bnd_ok (av_nil ?_))))))))))
    refine ⟨ms, .lst bt, false, bt, .non, rfl, hg, rfl, rfl, hBl, hBt, rfl, .inl ⟨j, hB, ?_⟩⟩
    obtain ⟨cl, hc1, hc2, hc3⟩ := Hd.story (.int j)
    refine ⟨cl, hc1, hc2, _, hc3, ?_⟩
    refine bnd_ok (ev_tup2 (ev_s (bnd_ok ⟨_, rfl, ev_v rfl (bnd_ok ⟨_, rfl, ?_⟩)⟩)))
    refine bnd_ok ⟨_, _, true, rfl, rfl, (n2 _ _ (nice_int _)).two (n2 _ _ (nice_int _)) (by decide) (by decide), (n2 _ _ (nice_int _)).same, ?_⟩
    refine bnd_ok ⟨_, rfl, ?_⟩
    refine bndS_ok ⟨_, rfl, fun h => absurd h (by decide), fun _ => ?_⟩
    refine sv_next (seq_nx ?_)
    try simp only [bks, bk]
    have hStl : (hs.map fun (h : Nat) => Dat.int h).length ≤ 10000 := by rw [List.length_map]; omega
    have hStt : ∀ x ∈ (hs.map fun (h : Nat) => Dat.int h), x.tyn.isSome = true := fun x hx => by
      obtain ⟨h, _, rfl⟩ := List.mem_map.mp hx
      rfl
    -- marks_along of no logs
    refine sv_seq (sv_if (tv_test (ev_neD (ev_many Hd.ap Hd.ne (fun E' => ?_)))))
    refine ev_call (av_cons (ev_v rfl (bnd_ok (av_cons (ev_v rfl (bnd_ok (av_cons (ev_n (bnd_ok (av_nil ?_))))))))))
    refine ⟨ms, _, false, _, .non, rfl, hg, rfl, rfl, hStl, hStt, rfl, .inr ⟨hs, rfl, hA.hb, .inl ⟨(fun t2 rs e => by cases e), ?_⟩⟩⟩
    obtain ⟨cl, hc1, hc2, hc3⟩ := Hd.logs (.int (-1))
    refine ⟨cl, hc1, hc2, _, hc3, ?_⟩
    refine bnd_ok (ev_tup2 (ev_s (bnd_ok ⟨_, rfl, ev_oZ0 (ev_i (bnd_ok (ev_i (bnd_ok ⟨_, _, rfl, rfl, ?_⟩))))⟩)))
    refine bnd_ok ⟨_, rfl, ?_⟩
    refine bnd_ok ⟨_, _, true, rfl, rfl, (n2 _ _ (nice_int _)).two (n2 _ _ (nice_int _)) (by decide) (by decide), (n2 _ _ (nice_int _)).same, ?_⟩
    refine bnd_ok ⟨_, rfl, ?_⟩
    refine bndS_ok ⟨_, rfl, fun h => absurd h (by decide), fun _ => ?_⟩
    refine sv_next (seq_nx ?_)
    try simp only [bks, bk]
    -- struck_logs of too few logs
    refine sv_seq (sv_if (tv_test (ev_neD (ev_many Hd.ap Hd.ne (fun E' => ?_)))))
    refine ev_call (av_cons (ev_v rfl (bnd_ok (av_cons (ev_slT (ev_v rfl (bnd_ok ⟨_, rfl, ev_i (bnd_ok ⟨_, rfl, ?_⟩)⟩)))))))
    refine bnd_ok (av_cons (ev_n (bnd_ok (av_nil ?_))))
    refine ⟨ms, _, .non, rfl, hg, rfl, rfl, .inl ⟨fun t2 rs e => ?_, ?_⟩⟩
    · cases e
      rw [show (1 : Int) = ((1 : Nat) : Int) from rfl, cut_drop _ 1 (by rw [rowsD, List.length_map]; omega), List.length_drop, rowsD, List.length_map]
      omega
    obtain ⟨cl, hc1, hc2, hc3⟩ := Hd.logs (.int (-1))
    refine ⟨cl, hc1, hc2, _, hc3, ?_⟩
    refine bnd_ok (ev_tup2 (ev_s (bnd_ok ⟨_, rfl, ev_oZ0 (ev_i (bnd_ok (ev_i (bnd_ok ⟨_, _, rfl, rfl, ?_⟩))))⟩)))
    refine bnd_ok ⟨_, rfl, ?_⟩
    refine bnd_ok ⟨_, _, true, rfl, rfl, (n2 _ _ (nice_int _)).two (n2 _ _ (nice_int _)) (by decide) (by decide), (n2 _ _ (nice_int _)).same, ?_⟩
    refine bnd_ok ⟨_, rfl, ?_⟩
    refine bndS_ok ⟨_, rfl, fun h => absurd h (by decide), fun _ => ?_⟩
    refine sv_next (seq_nx ?_)
    try simp only [bks, bk]
    -- struck_logs of no hand
    refine sv_seq (sv_if (tv_test (ev_neD (ev_many Hd.ap Hd.ne (fun E' => ?_)))))
    refine ev_call (av_cons (ev_v rfl (bnd_ok (av_cons (ev_v rfl (bnd_ok (av_cons (ev_v rfl (bnd_ok (av_nil ?_))))))))))
    refine ⟨ms, .tup (rowsD rows), odd, rfl, hg, rfl, hO.t, .inr (.inl ⟨true, _, rfl, hR.ok Dat.tup (.inl rfl), hO.b, ?_⟩)⟩
    obtain ⟨cl, hc1, hc2, hc3⟩ := Hd.hand hO.s (by decide) (by decide)
    refine ⟨cl, hc1, hc2, _, hc3, ?_⟩
    refine bnd_ok (ev_tup2 (ev_s (bnd_ok ⟨_, rfl, ev_repr (av_cons (ev_v rfl (bnd_ok (av_nil ⟨_, rfl, hO.s.ok (by decide) (by decide), ?_⟩))))⟩)))
    refine bnd_ok ⟨_, rfl, ?_⟩
    refine bnd_ok ⟨_, _, true, rfl, rfl, (n2 _ _ (nice_shown hO.l)).two (n2 _ _ (nice_shown hO.l)) (by decide) (by decide), (n2 _ _ (nice_shown hO.l)).same, ?_⟩
    refine bnd_ok ⟨_, rfl, ?_⟩
    refine bndS_ok ⟨_, rfl, fun h => absurd h (by decide), fun _ => ?_⟩
    refine sv_next (seq_nx ?_)
    try simp only [bks, bk]
    -- marks that are none
    have hBad := bads_of hA hl
    obtain ⟨bads, hbads⟩ : ∃ b, b = [Dat.non, .int 0, .lst (ks.map Dat.int ++ [.int 0]), .str (strRep "0" (hs.length : Int))] := ⟨_, rfl⟩
    rw [← hbads] at hBad
    refine sv_seq (sv_for (ws := [7]) ?_)
    refine iv_any (DL.ev_tup (ds := bads) (av_cons (ev_n (bnd_ok (av_cons (ev_i (bnd_ok (av_cons (ev_cat ?_)))))))))
    refine ev_frzD (DL.ev_lstD (av_cons (ev_v rfl (bnd_ok (av_nil ⟨_, _, _, rfl, rfl, by rw [List.length_map]; omega, fun b1 => ⟨okRs_map _, ?_⟩⟩)))))
    show bnd _ _ (.ok (.d (.lst (dats _)))) _
    rw [dats_map]
    refine bnd_ok (DL.ev_lst (av_cons (ev_i (bnd_ok (av_nil ⟨[.int 0], rfl, Nat.le_of_ble_eq_true rfl, ?_⟩)))))
    refine bnd_ok ⟨_, _, .d rfl, .d rfl, ?_, ?_⟩
    · rw [List.length_map]; show _ + 1 ≤ _; omega
    refine bnd_ok (av_cons (ev_repS (ev_s (bnd_ok (DL.ev_len (av_cons (ev_v rfl (bnd_ok (av_nil ⟨_, _, _, rfl, rfl, ?_⟩)))))))))
    rw [List.length_map]
    refine bnd_ok ⟨_, _, rfl, rfl, by omega, by omega, Nat.le_of_ble_eq_true rfl, ?_, ?_⟩
    · exact zeros_len hl
    refine bnd_ok (av_nil ⟨bads, by rw [hbads]; rfl, by rw [hbads]; exact Nat.le_of_ble_eq_true rfl, ?_⟩)
    refine bnd_ok ⟨_, _, _, rfl, rfl, ?_⟩
    refine loop_inv (fun i ρ' => ∃ u, ρ' = [some (boxO a g2 s2 c2), some (.d (hObj CH ms)), some (.d (.lst (hs.map fun (h : Nat) => Dat.int h))), some (.d (.lst (ks.map Dat.int))), some (.d (.int j)), some (.d odd), some (.d (.lst bt)), u, none, some (.d (.int ms.length)), some (.d (.tup (rowsD rows))), none, none]) ⟨_, rfl⟩ (fun i2 x ρ2 hi2 he2 => ?_) (fun ρ2 he2 => ?_)
    · obtain ⟨u, rfl⟩ := he2
      have hx := hBad x (List.mem_of_getElem? hi2)
      refine gv_name (Nat.le_of_ble_eq_true rfl) ?_
      refine sv_if (tv_test (ev_neD (ev_many Hd.ap Hd.ne (fun E' => ?_))))
      refine ev_call (av_cons (ev_v rfl (bnd_ok (av_cons (ev_v rfl (bnd_ok (av_cons (ev_v rfl (bnd_ok (av_nil ?_))))))))))
      refine ⟨ms, _, false, _, x, rfl, hg, rfl, rfl, hStl, hStt, hx.t, .inr ⟨hs, rfl, hA.hb, hx.a, hx.f, ?_⟩⟩
      obtain ⟨cl, hc1, hc2, hc3⟩ := Hd.refused hx.s (by decide) (by decide)
      refine ⟨cl, hc1, hc2, _, hc3, ?_⟩
      refine bnd_ok (ev_tup3 (ev_s (bnd_ok ⟨_, rfl, ?_⟩)))
      refine ev_repr (av_cons (ev_v rfl (bnd_ok (av_nil ⟨_, rfl, hx.s.ok (by decide) (by decide), ?_⟩))))
      refine bnd_ok ⟨_, rfl, ev_b (bnd_ok ⟨_, rfl, ?_⟩)⟩
      refine bnd_ok ⟨_, _, true, rfl, rfl, (n3 _ _ (nice_shown hx.l)).two (n3 _ _ (nice_shown hx.l)) (by decide) (by decide), (n3 _ _ (nice_shown hx.l)).same, ?_⟩
      refine bnd_ok ⟨_, rfl, ?_⟩
      refine bndS_ok ⟨_, rfl, fun h => absurd h (by decide), fun _ => ?_⟩
      exact sv_next (onT_nx (Wk.refl _) ⟨_, rfl⟩)
    obtain ⟨u, rfl⟩ := he2
    refine resS_nx (seq_nx ?_)
    clear hbads hBad
    -- an empty story
    refine sv_seq (sv_if (tv_test (DL.ev_eqI (DL.ev_len (av_cons (ev_v rfl (bnd_ok (av_nil ⟨_, _, _, rfl, rfl, ?_⟩))))))))
    rw [List.length_map]
    refine bnd_ok (ev_i (bnd_ok ⟨_, _, rfl, rfl, ?_⟩))
    refine bnd_ok ⟨_, rfl, ?_⟩
    refine bndS_ok ⟨_, rfl, fun hz => ?_, fun hz => ?_⟩
    · exact sv_ret (ev_b (bndS_ok (ret_rt (.own rfl rfl (.dat (.dat (.dat .nil)))) (q g2 s2 c2))))
    have hz := of_decide_eq_false hz
    refine sv_next (seq_nx ?_)
    -- at again
    refine sv_seq (sv_asg (ev_call (av_cons (ev_l rfl (bnd_ok (av_cons ?_))))))
    refine DL.ev_len (av_cons (ev_v rfl (bnd_ok (av_nil ⟨_, _, _, rfl, rfl, ?_⟩))))
    rw [List.length_map]
    refine bnd_ok (av_nil ⟨a, g2, s2, c2, _, rfl, by omega, by omega, fun v g3 s3 c3 v0 v1 => ?_⟩)
    obtain ⟨i, rfl⟩ : ∃ i : Nat, v = (i : Int) := ⟨v.toNat, by omega⟩
    have hi : i < hs.length := by omega
    simp only [bks, bk, List.set, bkG_d, bkG_at, bkG_n]
    refine bndS_ok ⟨Nat.le_of_ble_eq_true rfl, seq_nx ?_⟩
    simp only [List.set]
    have hih := List.getElem?_eq_getElem hi
    have hib : hs[i] < ms.length := hA.hb _ (List.getElem_mem hi)
    have hmi : ms[hs[i]]? = some (ms.getD hs[i] 0) := by rw [List.getD_eq_getElem?_getD, List.getElem?_eq_getElem hib]; rfl
    have hmg := hg.2.2 _ (List.mem_of_getElem? hmi)
    -- one bad mark
    refine sv_seq (sv_asg (ev_cat (ev_cat ?_)))
    refine ev_frzD (DL.ev_lstD (av_cons (ev_slU (ev_v rfl (bnd_ok ⟨_, rfl, ev_v rfl (bnd_ok ⟨_, rfl, ?_⟩)⟩)))))
    rw [cut_take]
    refine bnd_ok (av_nil ⟨_, _, _, rfl, rfl, by rw [List.length_take, List.length_map]; omega, fun b2 => ⟨okRs_map _, ?_⟩⟩)
    show bnd _ _ (.ok (.d (.lst (dats _)))) _
    rw [dats_map]
    refine bnd_ok (DL.ev_lst (av_cons (ev_call (av_cons (ev_l rfl (bnd_ok (av_cons (DL.ev_lst ?_))))))))
    refine av_cons (ev_ixS (ev_fldD (ev_v rfl (bnd_ok ⟨_, _, _, rfl, LH.c, LH.m, rfl, ?_⟩))))
    refine bnd_ok (ev_ixS (ev_v rfl (bnd_ok (ev_v rfl (bnd_ok ⟨_, _, _, _, _, rfl, rfl, rfl, atD_nat (by rw [List.getElem?_map, hih]; rfl), ?_⟩)))))
    refine bnd_ok ⟨_, _, _, _, _, rfl, rfl, rfl, atD_nat (by rw [List.getElem?_map, hmi]; rfl), ?_⟩
    refine bnd_ok (av_cons (ev_oZ0 (ev_i (bnd_ok (ev_i (bnd_ok ⟨_, _, rfl, rfl, ?_⟩))))))
    refine bnd_ok (av_cons (ev_b (bnd_ok (av_cons (ev_n (bnd_ok (av_nil ⟨[.int (ms.getD hs[i] 0), .int (0 - 1), .bl true, .non], rfl, Nat.le_of_ble_eq_true rfl, ?_⟩)))))))
    refine bnd_ok (av_nil ⟨a, g3, s3, c3, _, rfl, Nat.le_of_ble_eq_true rfl, Nat.le_of_ble_eq_true rfl, fun ox hox g4 s4 c4 => ?_⟩)
    have hOx := odd_of (n := ms.getD hs[i] 0) (by omega) hox
    simp only [bks, bk, List.set, bkG_d, bkG_at, bkG_n]
    refine bnd_ok (av_nil ⟨[ox], rfl, Nat.le_of_ble_eq_true rfl, ?_⟩)
    refine bnd_ok ⟨_, _, .d rfl, .d rfl, ?_, ?_⟩
    · rw [List.length_take, List.length_map]; show _ + 1 ≤ _; omega
    refine bnd_ok ?_
    refine ev_frzD (DL.ev_lstD (av_cons (ev_slL (ev_v rfl (bnd_ok ⟨_, rfl, ev_oZ0 (ev_v rfl (bnd_ok (ev_i (bnd_ok ⟨_, _, rfl, rfl, ?_⟩))))⟩)))))
    refine bnd_ok ⟨_, rfl, ?_⟩
    rw [show ((i : Int) + 1) = ((i + 1 : Nat) : Int) from rfl, cut_drop _ _ (by rw [List.length_map]; omega)]
    refine bnd_ok (av_nil ⟨_, _, _, rfl, rfl, by rw [List.length_drop, List.length_map]; omega, fun b3 => ⟨okRs_map _, ?_⟩⟩)
    show bnd _ _ (.ok (.d (.lst (dats _)))) _
    rw [dats_map]
    refine bnd_ok ⟨_, _, .d rfl, .d rfl, ?_, ?_⟩
    · rw [List.length_append, List.length_take, List.length_drop, List.length_map]; show _ + 1 + _ ≤ _; omega
    have hx : BadM (hs.map fun h => ms.getD h 0) (.lst ((ks.map Dat.int).take i ++ [ox] ++ (ks.map Dat.int).drop (i + 1))) := by
      have hmem : ∀ d ∈ (ks.map Dat.int).take i ++ [ox] ++ (ks.map Dat.int).drop (i + 1), d ∈ ks.map Dat.int ∨ d = ox := fun d hd => by
        rcases List.mem_append.mp hd with z | z
        · rcases List.mem_append.mp z with z | z
          · exact .inl (List.mem_of_mem_take z)
          · exact .inr (List.mem_singleton.mp z)
        · exact .inl (List.mem_of_mem_drop z)
      refine bad_lst (fun d hd => ?_) (fun d hd => ?_) (fun d hd => ?_) ?_ (fits_bad (j := i) (x := ox) (b := ms.getD hs[i] 0) ?_ ?_ hOx.b)
      · rcases hmem d hd with z | rfl
        · exact mark_shw hA d z
        · exact hOx.s
      · rcases hmem d hd with z | rfl
        · obtain ⟨k, _, rfl⟩ := List.mem_map.mp z
          rfl
        · exact hOx.t
      · rcases hmem d hd with z | rfl
        · obtain ⟨k, _, rfl⟩ := List.mem_map.mp z
          exact lay_int _
        · exact hOx.l
      · rw [List.length_append, List.length_append, List.length_take, List.length_drop, List.length_map]; show _ + 1 + _ ≤ _; omega
      · have hlt : ((ks.map Dat.int).take i).length = i := by rw [List.length_take, List.length_map]; omega
        rw [List.append_assoc, List.getElem?_append_right (by omega), hlt, Nat.sub_self]
        rfl
      · rw [List.getElem?_map, hih]
        rfl
    generalize (ks.map Dat.int).take i ++ [ox] ++ (ks.map Dat.int).drop (i + 1) = mx at hx
    simp only [bks, bk, List.set, bkG_d, bkG_at, bkG_n]
    refine bndS_ok ⟨Nat.le_of_ble_eq_true rfl, seq_nx ?_⟩
    simp only [List.set]
    refine sv_seq (sv_if (tv_test (ev_neD (ev_many Hd.ap Hd.ne (fun E' => ?_)))))
    refine ev_call (av_cons (ev_v rfl (bnd_ok (av_cons (ev_v rfl (bnd_ok (av_cons (ev_v rfl (bnd_ok (av_nil ?_))))))))))
    refine ⟨ms, _, false, _, .lst mx, rfl, hg, rfl, rfl, hStl, hStt, hx.t, .inr ⟨hs, rfl, hA.hb, hx.a, hx.f, ?_⟩⟩
    obtain ⟨cl, hc1, hc2, hc3⟩ := Hd.refused hx.s (by decide) (by decide)
    refine ⟨cl, hc1, hc2, _, hc3, ?_⟩
    refine bnd_ok (ev_tup3 (ev_s (bnd_ok ⟨_, rfl, ?_⟩)))
    refine ev_repr (av_cons (ev_v rfl (bnd_ok (av_nil ⟨_, rfl, hx.s.ok (by decide) (by decide), ?_⟩))))
    refine bnd_ok ⟨_, rfl, ev_b (bnd_ok ⟨_, rfl, ?_⟩)⟩
    refine bnd_ok ⟨_, _, true, rfl, rfl, (n3 _ _ (nice_shown hx.l)).two (n3 _ _ (nice_shown hx.l)) (by decide) (by decide), (n3 _ _ (nice_shown hx.l)).same, ?_⟩
    refine bnd_ok ⟨_, rfl, ?_⟩
    refine bndS_ok ⟨_, rfl, fun h => absurd h (by decide), fun _ => ?_⟩
    refine sv_next (seq_nx ?_)
    try simp only [bks, bk]
    clear hx
    -- logs with one entry more or fewer
    refine sv_seq (sv_for (ws := [8]) ?_)
    refine iv_any (DL.ev_tup (ds := []) (av_cons (ev_i (bnd_ok (av_cons (ev_i (bnd_ok (av_nil ⟨[.int 1, .int 0], rfl, Nat.le_of_ble_eq_true rfl, ?_⟩))))))))
    refine bnd_ok ⟨_, _, _, rfl, rfl, ?_⟩
    refine loop_inv (fun i' ρ' => ∃ u v, ρ' = [some (boxO a g4 s4 c4), some (.d (hObj CH ms)), some (.d (.lst (hs.map fun (h : Nat) => Dat.int h))), some (.d (.lst (ks.map Dat.int))), some (.d (.int i)), some (.d odd), some (.d (.lst bt)), u, v, some (.d (.int ms.length)), some (.d (.tup (rowsD rows))), none, none]) ⟨_, _, rfl⟩ (fun i2 x ρ2 hi2 he2 => ?_) (fun ρ2 he2 => ?_)
    · obtain ⟨u, v, rfl⟩ := he2
      obtain ⟨more, hmo, rfl⟩ : ∃ more : Int, (more = 1 ∨ more = 0) ∧ x = .int more := by
        rcases List.mem_cons.mp (List.mem_of_getElem? hi2) with rfl | hx
        · exact ⟨1, .inl rfl, rfl⟩
        · exact ⟨0, .inr rfl, List.mem_singleton.mp hx⟩
      refine gv_name (Nat.le_of_ble_eq_true rfl) ?_
      simp only [List.set]
      obtain ⟨rh, hrh⟩ : ∃ rh, rh = rowOf (hs.zip ks) hs[i] := ⟨_, rfl⟩
      have hrw : rows[hs[i]]? = some rh := by rw [hrows, hrh]; exact rowsP_get _ hib
      have hcn : rh.length = hs.count hs[i] := by rw [hrh, rowOf_len, List.map_fst_zip (by omega)]
      have hc1 : 0 < hs.count hs[i] := List.count_pos_iff.mpr (List.getElem_mem hi)
      have hc2 : hs.count hs[i] ≤ hs.length := List.count_le_length
      have hR2 := hR.chg hg hrw (by omega) more
      have hcl := chg_len (more := more) (r := rh) (by omega)
      have hfew : ∀ r ∈ rows, r.length ≤ 6 := fun r hr => by
        obtain ⟨u, hu⟩ := List.getElem?_of_mem hr
        have hul := (List.getElem?_eq_some_iff.mp hu).1
        rw [hrows, rowsP_get _ (by omega)] at hu
        cases hu
        rw [rowOf_len, List.map_fst_zip (by omega)]
        exact Nat.le_trans List.count_le_length hl
      have hfw2 : ∀ r ∈ rows.set hs[i] (chg more rh), r.length ≤ 7 := fun r hr => by
        rcases List.mem_or_eq_of_mem_set hr with y | rfl
        · have := hfew r y
          omega
        · omega
      have hne : ((rows.set hs[i] (chg more rh)).map fun r : List Int => ((r.length : Nat) : Int)) ≠ cntP ms.length hs := fun z => by
        have z2 : ((rows.set hs[i] (chg more rh)).map fun r : List Int => ((r.length : Nat) : Int))[hs[i]]? = (cntP ms.length hs)[hs[i]]? := by rw [z]
        rw [cntP_get _ hib, List.getElem?_map, List.getElem?_set_self (by omega)] at z2
        have z3 : (((chg more rh).length : Nat) : Int) = ((hs.count hs[i] : Nat) : Int) := Option.some.inj z2
        omega
      have hset : ∀ u, u < ms.length → (rows.set hs[i] (chg more rh)).getD u [] = if u = hs[i] then chg more rh else rows.getD u [] := fun u hu => by
        rw [List.getD_eq_getElem?_getD]
        by_cases c : u = hs[i]
        · rw [if_pos c, c, List.getElem?_set_self (by omega)]
          rfl
        · rw [if_neg c, List.getElem?_set_ne (fun z => c z.symm), List.getD_eq_getElem?_getD]
      refine sv_seq (sv_asg ?_)
      refine ev_lcM (ws := [11]) (fun r : List Int => .tup (r.map Dat.int)) (fun r : List Int => .tup ((chg more r).map Dat.int)) (by decide) ?_
      refine iv_any (ev_v rfl (bnd_ok ⟨_, _, _, rfl, rfl, rows, rfl, by omega, fun r hr => ?_, ?_⟩))
      · refine gv_name (Nat.le_of_ble_eq_true rfl) ⟨rfl, ?_⟩
        have hr6 := hfew r hr
        refine ev_if (tv_test (DL.ev_eqI (ev_v rfl (bnd_ok (ev_i (bnd_ok ⟨_, _, rfl, rfl, ?_⟩))))))
        refine bnd_ok ⟨_, rfl, ?_⟩
        refine bnd_ok ⟨_, rfl, fun hb => ?_, fun hb => ?_⟩
        · have hb := of_decide_eq_true hb
          refine ev_catT (ev_v rfl (bnd_ok (DL.ev_tup (ds := []) (av_cons (ev_i (bnd_ok (av_nil ⟨[.int 0], rfl, Nat.le_of_ble_eq_true rfl, ?_⟩)))))))
          refine bnd_ok ⟨_, _, rfl, rfl, ?_, ?_⟩
          · rw [List.length_map]; show _ + 1 ≤ _; omega
          refine onE_ok ⟨?_, rfl⟩
          unfold chg
          rw [if_pos hb, List.map_append]
          rfl
        · have hb := of_decide_eq_false hb
          refine ev_slTu (ev_v rfl (bnd_ok ⟨_, rfl, ?_⟩))
          refine ev_neg (ev_i (bnd_ok ⟨_, rfl, ?_⟩))
          refine bnd_ok ⟨_, rfl, ?_⟩
          rw [cutD_dropLast]
          refine onE_ok ⟨?_, rfl⟩
          unfold chg
          rw [if_neg hb, List.map_dropLast]
      refine bndS_ok ⟨Nat.le_of_ble_eq_true rfl, seq_nx ?_⟩
      simp only [bks, bk, List.set, wp, List.map, List.foldl, bkG_d, bkG_at, bkG_n]
      refine sv_seq (sv_asg ?_)
      refine ev_lcM (ws := [12]) (fun u : Nat => .int (u : Int)) (fun u : Nat => .tup (((rows.set hs[i] (chg more rh)).getD u []).map Dat.int)) (by decide) ?_
      refine iv_rng1 (av_cons (ev_v rfl (bnd_ok (av_nil ⟨_, rfl, by omega, by omega, List.range ms.length, ?_, by rw [List.length_range]; omega, fun u hu => ?_, ?_⟩))))
      · unfold rangeD
        simp
      · have hu1 := List.mem_range.mp hu
        have hru := List.getElem?_eq_getElem (l := rows) (i := u) (by omega)
        refine gv_name (Nat.le_of_ble_eq_true rfl) ⟨rfl, ?_⟩
        refine ev_if (tv_test (DL.ev_eqI (ev_v rfl (bnd_ok (ev_ixS (ev_v rfl (bnd_ok (ev_v rfl (bnd_ok ⟨_, _, _, _, _, rfl, rfl, rfl, atD_nat (by rw [List.getElem?_map, hih]; rfl), ?_⟩)))))))))
        refine bnd_ok ⟨_, _, rfl, rfl, ?_⟩
        refine bnd_ok ⟨_, rfl, ?_⟩
        refine bnd_ok ⟨_, rfl, fun hb => ?_, fun hb => ?_⟩
        · have hb : u = hs[i] := by have := of_decide_eq_true hb; omega
          refine ev_ixS (ev_v rfl (bnd_ok (ev_v rfl (bnd_ok ⟨_, _, _, _, _, rfl, rfl, rfl, atD_nat (by rw [List.getElem?_map, hru]; rfl), ?_⟩))))
          refine onE_ok ⟨?_, rfl⟩
          have e3 : rows[u]? = some rh := by rw [hb]; exact hrw
          have e2 : rows[u] = rh := Option.some.inj (hru.symm.trans e3)
          rw [hset u hu1, if_pos hb, e2]
        · have hb : ¬ u = hs[i] := by have := of_decide_eq_false hb; omega
          refine ev_ixS (ev_v rfl (bnd_ok (ev_v rfl (bnd_ok ⟨_, _, _, _, _, rfl, rfl, rfl, atD_nat (by rw [rowsD, List.getElem?_map, hru]; rfl), ?_⟩))))
          refine onE_ok ⟨?_, rfl⟩
          rw [hset u hu1, if_neg hb, List.getD_eq_getElem?_getD, hru]
          rfl
      have hlen2 : (rows.set hs[i] (chg more rh)).length = ms.length := hR2.len
      rw [show (List.range ms.length).map (fun u : Nat => Dat.tup (((rows.set hs[i] (chg more rh)).getD u []).map Dat.int)) = (rows.set hs[i] (chg more rh)).map (fun r => Dat.tup (r.map Dat.int)) by
        rw [← hlen2]
        exact range_getD _ fun r => Dat.tup (r.map Dat.int)]
      have hSh := hR2.shw hg hfw2 (by decide) Dat.tup (.inl rfl) Dat.lst (.inr rfl)
      have hLy : Lay (.lst ((rows.set hs[i] (chg more rh)).map fun r => Dat.tup (r.map Dat.int))) := lay_lst (lay_map fun r _ => lay_tup (lay_map fun k _ => lay_int k))
      have hLo := hR2.ok Dat.tup (.inl rfl)
      have hTu := tup_rowsI (rows.set hs[i] (chg more rh))
      generalize rows.set hs[i] (chg more rh) = rw2 at hne hSh hLy hLo hTu
      refine bndS_ok ⟨Nat.le_of_ble_eq_true rfl, seq_nx ?_⟩
      simp only [bks, bk, List.set, wp, List.map, List.foldl, bkG_d, bkG_at, bkG_n]
      refine sv_if (tv_test (ev_neD (ev_many Hd.ap Hd.ne (fun E' => ?_))))
      refine ev_call (av_cons (ev_v rfl (bnd_ok (av_cons (ev_v rfl (bnd_ok (av_cons (ev_v rfl (bnd_ok (av_nil ?_))))))))))
      refine ⟨ms, _, false, _, _, rfl, hg, rfl, rfl, hStl, hStt, rfl, .inr ⟨hs, rfl, hA.hb, .inr ⟨false, _, rw2, rfl, hLo, hTu, hne, ?_⟩⟩⟩
      obtain ⟨cl, hc1, hc2, hc3⟩ := Hd.refused hSh (by decide) (by decide)
      refine ⟨cl, hc1, hc2, _, hc3, ?_⟩
      refine bnd_ok (ev_tup3 (ev_s (bnd_ok ⟨_, rfl, ?_⟩)))
      refine ev_repr (av_cons (ev_v rfl (bnd_ok (av_nil ⟨_, rfl, hSh.ok (by decide) (by decide), ?_⟩))))
      refine bnd_ok ⟨_, rfl, ev_b (bnd_ok ⟨_, rfl, ?_⟩)⟩
      refine bnd_ok ⟨_, _, true, rfl, rfl, (n3 _ _ (nice_shown hLy)).two (n3 _ _ (nice_shown hLy)) (by decide) (by decide), (n3 _ _ (nice_shown hLy)).same, ?_⟩
      refine bnd_ok ⟨_, rfl, ?_⟩
      refine bndS_ok ⟨_, rfl, fun h => absurd h (by decide), fun _ => ?_⟩
      exact sv_next (onT_nx (Wk.refl _) ⟨_, _, rfl⟩)
    obtain ⟨u, v, rfl⟩ := he2
    refine resS_nx (seq_nx ?_)
    exact sv_ret (ev_b (bndS_ok (ret_rt (.own rfl rfl (.dat (.dat (.dat .nil)))) (q g4 s4 c4))))

end
end K02

namespace K02
open PySem L2 Evl DL
local macro_rules | `(tactic| walk_at "dl") => `(tactic| first
  | with_reducible refine bnd_ok ?_ | with_reducible refine bndS_ok ?_ | with_reducible refine onE_ok ?_ | with_reducible refine seq_nx ?_ | with_reducible refine seq_rt ?_ | with_reducible refine seq_bk ?_ | with_reducible refine seq_ct ?_ | with_reducible refine onT_rt ?_ | with_reducible refine onT_bk ?_ | with_reducible refine resS_nx ?_ | with_reducible refine resS_rt ?_
  | refine ev_v rfl ?_ | refine ev_l rfl ?_ | with_reducible refine ev_i ?_ | with_reducible refine ev_n ?_ | with_reducible refine ev_b ?_ | with_reducible refine ev_s ?_
  | with_reducible refine ev_oZ0 ?_ | with_reducible refine ev_oB0 ?_ | with_reducible refine ev_oZ ?_ | with_reducible refine ev_neg ?_ | with_reducible refine ev_neI ?_ | with_reducible refine ev_eqI ?_ | with_reducible refine ev_isN ?_ | with_reducible refine ev_notN ?_ | with_reducible refine ev_chain ?_
  | with_reducible refine ev_andV ?_ | with_reducible refine ev_orV ?_ | with_reducible refine ev_notV ?_ | with_reducible refine ev_if ?_
  | with_reducible refine tv_test ?_ | with_reducible refine tv_B ?_ | with_reducible refine tv_and ?_ | with_reducible refine tv_or ?_ | with_reducible refine tv_not ?_ | with_reducible refine tv_yes ?_
  | with_reducible refine ev_isiInt ?_ | with_reducible refine ev_isiBool ?_ | with_reducible refine ev_isiSeq ?_
  | with_reducible refine av_cons ?_ | with_reducible refine av_nil ?_
  | with_reducible refine ev_pure ?_ | with_reducible refine ev_gcd ?_ | with_reducible refine ev_abs ?_ | with_reducible refine ev_int1 ?_
  | (with_reducible refine DL.ev_len ?_; refine av_cons ?_; refine ev_v rfl ?_; refine bnd_ok ?_; refine av_nil ?_; refine ⟨_, _, _, rfl, by first | rfl | assumption, ?_⟩)
  | with_reducible refine ev_fldD ?_ | with_reducible refine ev_ixS ?_
  | with_reducible refine sv_seq ?_ | with_reducible refine sv_next ?_ | with_reducible refine sv_brk ?_ | with_reducible refine sv_cont ?_ | with_reducible refine sv_ret ?_ | with_reducible refine sv_retN ?_ | with_reducible refine sv_if ?_ | with_reducible refine sv_drop ?_
  | with_reducible refine sv_asg ?_
  | refine ⟨_, rfl, fun hb => ?_, fun hb => ?_⟩
  | refine ⟨_, _, rfl, rfl, fun hb => ?_, fun hb => ?_⟩
  | refine ⟨_, _, rfl, rfl, ?_⟩
  | refine ⟨_, _, _, _, rfl, rfl, rfl, ?_⟩
  | refine ⟨_, rfl, ?_⟩ | refine ⟨_, _, rfl, ?_⟩
  | refine And.intro rfl ?_ | refine And.intro (Nat.le_of_ble_eq_true rfl) ?_ | refine And.intro (by assumption) ?_)
local macro_rules | `(tactic| walk_at "dls") => `(tactic| repeat (walk_at "dl"; all_goals try (first | (exact (nomatch ‹false = true›)) | (exact (nomatch ‹true = false›)))))
local macro_rules | `(tactic| walk_at "dla") => `(tactic| repeat' (first | (exact (nomatch ‹false = true›)) | (exact (nomatch ‹true = false›)) | walk_at "dl"))
local macro_rules | `(tactic| walk_at "dlr") => `(tactic| (refine ret_rt (pms_d _ _ (Nat.le_of_ble_eq_true rfl)) ?_))
local macro_rules | `(tactic| walk_at "dlt") => `(tactic| first | walk_at "dl" | with_reducible refine ev_tup2 ?_ | with_reducible refine ev_tup3 ?_)
local macro_rules | `(tactic| walk_at "dlts") => `(tactic| repeat walk_at "dlt")
section
variable {P : Program} {w : World} {K : PySem.W.Frag} [HasTabs K] {mg : Str → Option Value} {base : Heap} {CH CD : Addr}
abbrev s__law_moment_right : Stmt := topS 40
abbrev N__law_moment_right : List Str := ["box", "hands", "story", "marks", "many", "due", "deed", "told", "other", "left", "places", "hand", "mark", "log"]
theorem sc__law_moment_right : FnScope N__law_moment_right ["box", "hands", "story", "marks"] (defScope s__law_moment_right) := ⟨rfl, rfl, rfl, by decide +kernel, rfl, by decide +kernel, by decide +kernel⟩
def R_law_moment_right (CH : Addr) : Pr := fun os Pp => ∃ (a : Addr) (g s c : Int) (ms : List Int) (sy : Dat) (t : Bool) (hs : List Nat) (mk : Dat) (t2 : Bool) (ks : List Int), os = [boxO a g s c, .d (hObj CH ms), .d sy, .d mk] ∧ sy.tyn.isSome = true ∧ sy.seq = some (t, hs.map fun (h : Nat) => Dat.int h) ∧ mk.tyn.isSome = true ∧ mk.seq = some (t2, ks.map Dat.int) ∧ Along ms hs ks ∧ hs.length ≤ 100 ∧
  ∀ g' s' c', Pp (.ok (.d (.bl true))) [boxO a g' s' c', .d (hObj CH ms), .d sy, .d mk]
theorem R_law_moment_right_noex (CH : Addr) (os : List Ow) (Pp : Re → List Ow → Prop) (h : R_law_moment_right CH os Pp) : R_law_moment_right CH os (fun r us => (match r with | .ok _ => True | .ex _ _ => False) ∧ Pp r us) := by
  obtain ⟨a, g, s, c, ms, sy, t, hs, mk, t2, ks, h1, h2, h3, h4, h5, h6, h7, q⟩ := h
  exact ⟨a, g, s, c, ms, sy, t, hs, mk, t2, ks, h1, h2, h3, h4, h5, h6, h7, fun g' s' c' => ⟨trivial, q g' s' c'⟩⟩
theorem ok__law_moment_right (T : Txt mg) (LH : ClHands K CH) (O__law_take : Ok P w K mg base 1 "_law_take" ["box", "many"] R_law_take) (O__law_logs : Ok P w K mg base 1 "_law_logs" ["many", "story", "marks"] (pureR R_law_logs)) (O_last_marks : Ok P w K mg base 6 "last_marks" ["hands", "logs"] (pureR (R_last_marks CH))) (O_story_counts : Ok P w K mg base 5 "story_counts" ["hands", "story"] (pureR (R_story_counts CH)))
    (O_laid_logs : Ok P w K mg base 5 "laid_logs" ["hands", "story", "marks"] (pureR (R_laid_logs CH))) (OK_laid_logs : OkK P w K mg base 5 "laid_logs" ["hands", "story", "marks"] (pureR (R_laid_logs CH))) (O_marks_along : Ok P w K mg base 6 "marks_along" ["hands", "story", "logs"] (pureR (R_marks_along CH))) (OK_marks_along : OkK P w K mg base 6 "marks_along" ["hands", "story", "logs"] (pureR (R_marks_along CH)))
    (F : Dfn K mg "_law_moment_right" "_law_moment_right" s__law_moment_right ["box", "hands", "story", "marks"]) : OkG P w K mg base 7 "_law_moment_right" ["box", "hands", "story", "marks"] (R_law_moment_right CH) := by
  refine F.okG sc__law_moment_right (by decide) (fun os Pp h => ?_) (R_law_moment_right_noex CH) (fun f cdv A outer s H E hgd hr => ⟨_, (pss_cons (ps_set (i := 4) sc__law_moment_right.nd rfl (.inl rfl) (pe_fldK (K := K) rfl (pv 1) rfl)) (pss_cons (ps_set (i := 5) sc__law_moment_right.nd rfl (.inl rfl) (pe_fn O__law_logs ⟨rfl, rfl, rfl, rfl, rfl⟩ (hr.mono (by decide)) rfl (pa_cons (pv 4) (pa_cons (pv 2) (pa_cons (pv 3) pa_nil))))) (pss_cons (ps_if (PW.pt (pw_or (pt_cmpR op_ne (pe_callB (r := rReprD K) (call_reprD hgd (units65 hr)) (by rfl) T.b_repr (by decide +kernel) (pa_cons (pe_fn O_laid_logs ⟨rfl, rfl, rfl, rfl, rfl⟩ (hr.mono (by decide)) rfl (pa_cons (pv 1) (pa_cons (pv 2) (pa_cons (pv 3) pa_nil)))) pa_nil)) (pe_callB (r := rReprD K) (call_reprD hgd (units65 hr)) (by rfl) T.b_repr (by decide +kernel) (pa_cons (pv 5) pa_nil)) (nomark _)) (pw_or1 (pt_cmpR (r := rNeD K) (op_neD (units64 hr)) (pe_fnK OK_laid_logs ⟨rfl, rfl, rfl, rfl, rfl⟩ (hr.mono (by decide)) rfl (pk_cons (pe_callTy (r := rTupO K) call_tuple_of (by rfl) T.b_tuple (by decide +kernel) (pa_cons (pv 3) pa_nil)) (pk_cons (pe_callTy (r := rTupO K) call_tuple_of (by rfl) T.b_tuple (by decide +kernel) (pa_cons (pv 2) pa_nil)) (pk_cons (pv 1) pk_nil)))) (pv 5) (nomark _))))) (pss_one (ps_ret pe_bl)) pss_nil) (pss_cons (ps_if (pt_cmpR op_ne (pe_callB (r := rReprD K) (call_reprD hgd (units65 hr)) (by rfl) T.b_repr (by decide +kernel) (pa_cons (pe_fn O_marks_along ⟨rfl, rfl, rfl, rfl, rfl⟩ (hr.mono (by decide)) rfl (pa_cons (pv 1) (pa_cons (pv 2) (pa_cons (pv 5) pa_nil)))) pa_nil)) (pe_callB (r := rReprD K) (call_reprD hgd (units65 hr)) (by rfl) T.b_repr (by decide +kernel) (pa_cons (pe_callTy (r := rTupO K) call_tuple_of (by rfl) T.b_tuple (by decide +kernel) (pa_cons (pv 3) pa_nil)) pa_nil)) (nomark _)) (pss_one (ps_ret pe_bl)) pss_nil) (pss_cons (ps_if (pt_cmpR (r := rNeD K) (op_neD (units64 hr)) (pe_fnK OK_marks_along ⟨rfl, rfl, rfl, rfl, rfl⟩ (hr.mono (by decide)) rfl (pk_cons (pe_lc (own := [("log", 13)]) (g := gName 13) (tt := tYes) rfl sc__law_moment_right.nd (pi_anyK (K := K) rfl (pv 5)) (blkOk_by (own := [("log", 13)]) (N := N__law_moment_right) (sc := defScope s__law_moment_right) (by decide +kernel)) (fun _ _ _ _ _ => (pg_name (i := 13) sc__law_moment_right.nd rfl (.inl rfl))) (fun _ _ _ _ _ => pts_nil) (fun _ _ _ _ _ => (pe_callTy (r := rListO K) call_list_of (by rfl) T.b_list (by decide +kernel) (pa_cons (pv 13) pa_nil)))) (pk_cons (pe_callTy (r := rTupO K) call_tuple_of (by rfl) T.b_tuple (by decide +kernel) (pa_cons (pv 2) pa_nil)) (pk_cons (pv 1) pk_nil)))) (pe_callTy (r := rTupO K) call_tuple_of (by rfl) T.b_tuple (by decide +kernel) (pa_cons (pv 3) pa_nil)) (nomark _)) (pss_one (ps_ret pe_bl)) pss_nil) (pss_cons (ps_if (pt_cmpR (r := rNeD K) (op_neD (units64 hr)) (pe_fn O_last_marks ⟨rfl, rfl, rfl, rfl, rfl⟩ (hr.mono (by decide)) rfl (pa_cons (pv 1) (pa_cons (pv 5) pa_nil))) (pe_callTy (r := rTupO K) call_tuple_of (by rfl) T.b_tuple (by decide +kernel) (pa_cons (pe_lc (own := [("log", 13)]) (g := gName 13) (tt := tYes) rfl sc__law_moment_right.nd (pi_anyK (K := K) rfl (pv 5)) (blkOk_by (own := [("log", 13)]) (N := N__law_moment_right) (sc := defScope s__law_moment_right) (by decide +kernel)) (fun _ _ _ _ _ => (pg_name (i := 13) sc__law_moment_right.nd rfl (.inl rfl))) (fun _ _ _ _ _ => pts_nil) (fun _ _ _ _ _ => (pe_ifExp (pt_cmpR (r := rNeD K) (op_neD (units64 hr)) (pv 13) (pe_tup pa_nil) (nomark _)) (pe_ix (r := rIx K) ix_seq (pv 13) (pe_un un_neg pe_int) (fun _ _ => rfl)) pe_int))) pa_nil)) (nomark _)) (pss_one (ps_ret pe_bl)) pss_nil) (pss_cons (ps_if (pt_cmpR (r := rNeD K) (op_neD (units64 hr)) (pe_fn O_story_counts ⟨rfl, rfl, rfl, rfl, rfl⟩ (hr.mono (by decide)) rfl (pa_cons (pv 1) (pa_cons (pv 2) pa_nil))) (pe_callTy (r := rTupO K) call_tuple_of (by rfl) T.b_tuple (by decide +kernel) (pa_cons (pe_lc (own := [("log", 13)]) (g := gName 13) (tt := tYes) rfl sc__law_moment_right.nd (pi_anyK (K := K) rfl (pv 5)) (blkOk_by (own := [("log", 13)]) (N := N__law_moment_right) (sc := defScope s__law_moment_right) (by decide +kernel)) (fun _ _ _ _ _ => (pg_name (i := 13) sc__law_moment_right.nd rfl (.inl rfl))) (fun _ _ _ _ _ => pts_nil) (fun _ _ _ _ _ => (pe_callB (r := rLenQ K) call_len_seq (by rfl) T.b_len (by decide +kernel) (pa_cons (pv 13) pa_nil)))) pa_nil)) (nomark _)) (pss_one (ps_ret pe_bl)) pss_nil) (pss_cons (ps_par3 (i := 8) (j := 9) (l := 10) rfl sc__law_moment_right.nd rfl rfl rfl (by decide) (by decide) (by decide) rfl rfl rfl (pa_cons (pe_lst pa_nil) (pa_cons (pe_callTy (r := rListO K) call_list_of (by rfl) T.b_list (by decide +kernel) (pa_cons (pv 2) pa_nil)) (pa_cons (pe_op op_rep (pe_lst (pa_cons pe_int pa_nil)) (pv 4)) pa_nil))) rfl) (pss_cons (ps_for PassesOwn.never rfl (pi_range1 (by rfl) T.b_range (pa_cons (pe_callB (r := rLenQ K) call_len_seq (by rfl) T.b_len (by decide +kernel) (pa_cons (pv 2) pa_nil)) pa_nil)) (pg_name (i := 6) sc__law_moment_right.nd rfl (.inl rfl)) (pss_one (ps_expr (pe_bmK (K := K) rfl PySem.F.plainAttrs_list PySem.F.slot_list_append PySem.F.type_list_append mt_append (pv 8) (pa_cons (pe_bmK (K := K) rfl PySem.F.plainAttrs_list PySem.F.slot_list_pop PySem.F.type_list_pop mt_popAt (pv 9) (pa_cons (pe_fn O__law_take ⟨rfl, rfl, rfl, rfl, rfl⟩ (hr.mono (by decide)) rfl (pa_cons (pv 0) (pa_cons (pe_callB (r := rLenQ K) call_len_seq (by rfl) T.b_len (by decide +kernel) (pa_cons (pv 9) pa_nil)) pa_nil))) pa_nil)) pa_nil))))) (pss_cons (ps_set (i := 7) sc__law_moment_right.nd rfl (.inl rfl) (pe_fn O_marks_along ⟨rfl, rfl, rfl, rfl, rfl⟩ (hr.mono (by decide)) rfl (pa_cons (pv 1) (pa_cons (pv 8) (pa_cons (pv 5) pa_nil))))) (pss_cons (ps_for PassesOwn.never rfl (pi_zipK (K := K) rfl (by rfl) T.b_zip (pa_cons (pv 8) (pa_cons (pv 7) pa_nil))) (pg_tup rfl (pgs_cons (pg_name (i := 11) sc__law_moment_right.nd rfl (.inl rfl)) (pgs_cons (pg_name (i := 12) sc__law_moment_right.nd rfl (.inl rfl)) pgs_nil))) (pss_cons (ps_if (pt_cmpR op_ne (pe_ix (r := rIx K) ix_seq (pe_ix (r := rIx K) ix_seq (pv 5) (pv 11) (fun _ _ => rfl)) (pe_ix (r := rIxL K) ix_list (pv 10) (pv 11) (fun _ _ => rfl)) (fun _ _ => rfl)) (pv 12) (nomark _)) (pss_one (ps_ret pe_bl)) pss_nil) (pss_one (ps_asg (pe_op op_add (pe_ix (r := rIxL K) ix_list (pv 10) (pv 11) (fun _ _ => rfl)) pe_int) (pg_sub (pv 10) (pv 11) set_list))))) (pss_one (ps_ret (pe_and (pe_cmpR op_eq (pe_callB (r := rLenQ K) call_len_seq (by rfl) T.b_len (by decide +kernel) (pa_cons (pv 7) pa_nil)) (pe_callB (r := rLenQ K) call_len_seq (by rfl) T.b_len (by decide +kernel) (pa_cons (pv 8) pa_nil)) (nomark _)) (pe_one (pe_cmpR (r := rEqD K) (op_eqD (units64 hr)) (pe_fn O_laid_logs ⟨rfl, rfl, rfl, rfl, rfl⟩ (hr.mono (by decide)) rfl (pa_cons (pv 1) (pa_cons (pv 8) (pa_cons (pv 7) pa_nil)))) (pv 5) (nomark _))))))))))))))))), fun os Pp h => ?_⟩)
  · obtain ⟨a, g, sd, c, ms, sy, t, hs, mk, t2, ks, rfl, q⟩ := h
    rfl
  · obtain ⟨a, g, sd, c, ms, sy, t, hs, mk, t2, ks, rfl, hsx, hsy, hmx, hmk, hA, hl, q⟩ := h
    have hg := hA.g
    have hm8 := hg.2.1
    have hkl := hA.len
    have hR := hA.rows (by omega)
    obtain ⟨rows, hrows⟩ : ∃ rows, rows = rowsP ms.length (hs.zip ks) := ⟨_, rfl⟩
    rw [← hrows] at hR
    have hfr : ∀ r ∈ rows, r.length ≤ 100 := fun r hr => by
      rw [hrows] at hr
      obtain ⟨j, hj⟩ := List.getElem?_of_mem hr
      have hjl : j < ms.length := by
        have := (List.getElem?_eq_some_iff.mp hj).1
        rw [rowsP_len] at this
        exact this
      rw [rowsP_get _ hjl] at hj
      cases hj
      rw [rowOf_len]
      refine Nat.le_trans List.count_le_length ?_
      rw [List.length_map, List.length_zip]
      omega
    have hSR : Shw 2 12000 (.tup (rowsD rows)) := hR.shw hg hfr (by omega) Dat.tup (.inl rfl) Dat.tup (.inl rfl)
    have hSM : Shw 1 1403 (.tup (ks.map Dat.int)) := shw_marks hA hl Dat.tup (.inl rfl)
    have hfst : (hs.zip ks).map Prod.fst = hs := by rw [List.map_fst_zip (by omega)]
    have hsnd : (hs.zip ks).map Prod.snd = ks := by rw [List.map_snd_zip (by omega)]
    have hcnt : ∀ h r, rows[h]? = some r → hs.count h = r.length := fun h r e => by
      have hlt : h < ms.length := by
        have := (List.getElem?_eq_some_iff.mp e).1
        have := hR.len
        omega
      rw [hrows, rowsP_get _ hlt] at e
      cases e
      rw [rowOf_len, hfst]
    have hback : marksM rows hs = ks := by
      have := marks_back (n := ms.length) (ps := hs.zip ks) (fun p hp => hA.hb _ (List.of_mem_zip hp).1)
      rw [hfst, hsnd, ← hrows] at this
      exact this
    show SvP K E0 _ [some (boxO a g sd c), some (.d (hObj CH ms)), some (.d sy), some (.d mk), none, none, none, none, none, none, none, none, none, none] _
    walk_at "dls"
    refine ⟨_, _, _, rfl, LH.c, LH.n, rfl, ?_⟩
    walk_at "dls"
    refine ⟨[.int ms.length, sy, mk], _, rfl, ⟨ms.length, sy, t, hs, mk, t2, ks, rfl, hm8, hsy, hmk, hkl, by omega, rfl⟩, ?_⟩
    rw [← hrows]
    refine bndS_ok ⟨Nat.le_of_ble_eq_true rfl, seq_nx ?_⟩
    simp only [List.set]
    -- laid_logs
    refine sv_seq (sv_if (tv_or (tv_test (ev_neS (ev_repr (av_cons (ev_pure ?_)))))))
    refine av_cons (ev_v rfl (bnd_ok (av_cons (ev_v rfl (bnd_ok (av_cons (ev_v rfl (bnd_ok (av_nil ?_)))))))))
    refine ⟨[hObj CH ms, sy, mk], _, rfl, ⟨ms, sy, t, hs, mk, t2, ks, rfl, hsx, hsy, by omega, hmx, hmk, hA, rfl⟩, ?_⟩
    rw [← hrows]
    refine bnd_ok (av_nil ⟨_, rfl, hSR.ok (by decide) (by decide), ?_⟩)
    refine bnd_ok (ev_repr (av_cons (ev_v rfl (bnd_ok (av_nil ⟨_, rfl, hSR.ok (by decide) (by decide), ?_⟩)))))
    refine bnd_ok ⟨_, _, rfl, rfl, ?_⟩
    refine bnd_ok ⟨_, rfl, ?_⟩
    rw [decide_eq_true rfl]
    refine bnd_ok ⟨false, rfl, fun h => absurd h Bool.false_ne_true, fun _ => ?_⟩
    refine tv_test (ev_neD (ev_callK ?_))
    refine av_cons (DL.ev_tupD (av_cons (ev_v rfl (bnd_ok (av_nil ⟨_, _, _, rfl, hmk, ?_⟩)))))
    refine bnd_ok (av_cons (DL.ev_tupD (av_cons (ev_v rfl (bnd_ok (av_nil ⟨_, _, _, rfl, hsy, ?_⟩))))))
    refine bnd_ok (av_cons (ev_v rfl (bnd_ok (av_nil ?_))))
    refine ⟨[hObj CH ms, .tup (hs.map fun (h : Nat) => Dat.int h), .tup (ks.map Dat.int)], _, rfl, ⟨ms, _, true, hs, _, true, ks, rfl, rfl, rfl, by omega, rfl, rfl, hA, rfl⟩, ?_⟩
    rw [← hrows]
    refine bnd_ok (ev_v rfl (bnd_ok ⟨_, _, true, rfl, rfl, hR.nice.two hR.nice (by decide) (by decide), hR.nice.same, ?_⟩))
    refine bnd_ok ⟨_, rfl, ?_⟩
    refine bndS_ok ⟨_, rfl, fun h => absurd h (by decide), fun _ => ?_⟩
    refine sv_next (seq_nx ?_)
    try simp only [bks_d]
    -- marks_along
    refine sv_seq (sv_if (tv_test (ev_neS (ev_repr (av_cons (ev_pure ?_))))))
    refine av_cons (ev_v rfl (bnd_ok (av_cons (ev_v rfl (bnd_ok (av_cons (ev_v rfl (bnd_ok (av_nil ?_)))))))))
    refine ⟨[hObj CH ms, sy, .tup (rowsD rows)], _, rfl, ⟨ms, sy, t, hs, _, true, _, rows, rfl, hg, hsx, hsy, by omega, hA.hb, rfl, rfl, hR.ok Dat.tup (.inl rfl), tup_rowsI rows, hcnt, rfl⟩, ?_⟩
    rw [hback]
    refine bnd_ok (av_nil ⟨_, rfl, hSM.ok (by decide) (by decide), ?_⟩)
    refine bnd_ok (ev_repr (av_cons (DL.ev_tupD (av_cons (ev_v rfl (bnd_ok (av_nil ⟨_, _, _, rfl, hmk, ?_⟩)))))))
    refine bnd_ok (av_nil ⟨_, rfl, hSM.ok (by decide) (by decide), ?_⟩)
    refine bnd_ok ⟨_, _, rfl, rfl, ?_⟩
    refine bnd_ok ⟨_, rfl, ?_⟩
    rw [decide_eq_true rfl]
    refine bndS_ok ⟨false, rfl, fun h => absurd h Bool.false_ne_true, fun _ => ?_⟩
    refine sv_next (seq_nx ?_)
    try simp only [bks_d]
    -- by names, with lists
    refine sv_seq (sv_if (tv_test (ev_neD (ev_callK ?_))))
    refine av_cons ?_
    refine ev_lcM (ws := [13]) (fun r : List Int => .tup (r.map Dat.int)) (fun r : List Int => .lst (r.map Dat.int)) (by decide) ?_
    have hrl8 : rows.length ≤ 8 := by have := hR.len; omega
    refine iv_any (ev_v rfl (bnd_ok ⟨_, _, _, rfl, rfl, rows, rfl, by omega, fun r hr2 => ?_, ?_⟩))
    · refine gv_name (Nat.le_of_ble_eq_true rfl) ⟨rfl, ?_⟩
      have := hfr r hr2
      refine ev_frzD (DL.ev_lstD (av_cons (ev_v rfl (bnd_ok (av_nil ⟨_, _, _, rfl, rfl, by rw [List.length_map]; omega, fun b => ?_⟩)))))
      refine ⟨okRs_map _, ?_⟩
      refine onE_ok ⟨?_, rfl⟩
      show Ow.d (Dat.lst (dats _)) = _
      rw [dats_map]
    refine bnd_ok (av_cons (DL.ev_tupD (av_cons (ev_v rfl (bnd_ok (av_nil ⟨_, _, _, rfl, hsy, ?_⟩))))))
    refine bnd_ok (av_cons (ev_v rfl (bnd_ok (av_nil ?_))))
    refine ⟨[hObj CH ms, .tup (hs.map fun (h : Nat) => Dat.int h), .lst (rows.map fun r => Dat.lst (r.map Dat.int))], _, rfl, ⟨ms, _, true, hs, _, false, _, rows, rfl, hg, rfl, rfl, by omega, hA.hb, rfl, rfl, hR.ok Dat.lst (.inr rfl), lst_rowsI rows, hcnt, rfl⟩, ?_⟩
    rw [hback]
    refine bnd_ok (DL.ev_tupD (av_cons (ev_v rfl (bnd_ok (av_nil ⟨_, _, _, rfl, hmk, ?_⟩)))))
    refine bnd_ok ⟨_, _, true, rfl, rfl, hSM.1.two hSM.1 (by decide) (by decide), hSM.1.same, ?_⟩
    refine bnd_ok ⟨_, rfl, ?_⟩
    refine bndS_ok ⟨_, rfl, fun h => absurd h (by decide), fun _ => ?_⟩
    refine sv_next (seq_nx ?_)
    try simp only [bks_d]
    -- last_marks
    refine sv_seq (sv_if (tv_test (ev_neD (ev_pure ?_))))
    refine av_cons (ev_v rfl (bnd_ok (av_cons (ev_v rfl (bnd_ok (av_nil ?_))))))
    refine ⟨[hObj CH ms, .tup (rowsD rows)], _, rfl, ⟨ms, _, true, _, rows, rfl, hg, rfl, rfl, hR.ok Dat.tup (.inl rfl), tup_rowsI rows, rfl⟩, ?_⟩
    refine bnd_ok (DL.ev_tupD (av_cons ?_))
    refine ev_lcM (ws := [13]) (fun r : List Int => .tup (r.map Dat.int)) (fun r : List Int => .int (lastD r)) (by decide) ?_
    refine iv_any (ev_v rfl (bnd_ok ⟨_, _, _, rfl, rfl, rows, rfl, by omega, fun r hr2 => ?_, ?_⟩))
    · refine gv_name (Nat.le_of_ble_eq_true rfl) ⟨rfl, ?_⟩
      have nE : Nice 1 (.tup []) := nice_tup (n := 0) (fun x hx => absurd hx List.not_mem_nil)
      have nR : Nice 1 (.tup (r.map Dat.int)) := nice_tup (nice_map fun k _ => nice_int (n := 0) k)
      refine ev_if (tv_test (ev_neD (ev_v rfl (bnd_ok (ev_tup (ds := []) (av_nil ⟨[], rfl, Nat.le_of_ble_eq_true rfl, ?_⟩))))))
      refine bnd_ok ⟨_, _, decide (r = []), rfl, rfl, nR.two nE (by decide) (by decide), by cases r <;> rfl, ?_⟩
      refine bnd_ok ⟨_, rfl, ?_⟩
      rcases List.eq_nil_or_concat r with e | ⟨r0, k, e⟩
      · subst e
        refine bnd_ok ⟨_, rfl, fun hb => absurd hb (by decide), fun _ => ?_⟩
        exact ev_i (onE_ok ⟨rfl, rfl⟩)
      · rw [List.concat_eq_append] at e
        have hne : r ≠ [] := by rw [e]; simp
        rw [decide_eq_false hne]
        refine bnd_ok ⟨_, rfl, fun _ => ?_, fun hb => absurd hb (by decide)⟩
        subst e
        refine ev_ixS (ev_v rfl (bnd_ok (ev_neg (ev_i (bnd_ok ⟨_, rfl, ?_⟩)))))
        refine bnd_ok ⟨_, _, _, _, .int k, rfl, rfl, rfl, by rw [List.map_append]; exact at_last, ?_⟩
        refine onE_ok ⟨?_, rfl⟩
        unfold lastD
        simp
    have hLM : ∀ l : List Int, Nice 1 (.tup (l.map Dat.int)) := fun l => nice_tup (nice_map fun k _ => nice_int (n := 0) k)
    refine bnd_ok (av_nil ⟨_, _, _, rfl, rfl, ?_⟩)
    rw [show (rows.map fun r : List Int => Dat.int (lastD r)) = (rows.map lastD).map Dat.int by rw [List.map_map]; rfl]
    refine bnd_ok ⟨_, _, true, rfl, rfl, (hLM _).two (hLM _) (by decide) (by decide), (hLM _).same, ?_⟩
    refine bnd_ok ⟨_, rfl, ?_⟩
    refine bndS_ok ⟨_, rfl, fun h => absurd h (by decide), fun _ => ?_⟩
    refine sv_next (seq_nx ?_)
    try simp only [bks_d]
    -- story_counts
    refine sv_seq (sv_if (tv_test (ev_neD (ev_pure ?_))))
    refine av_cons (ev_v rfl (bnd_ok (av_cons (ev_v rfl (bnd_ok (av_nil ?_))))))
    refine ⟨[hObj CH ms, sy], _, rfl, ⟨ms, _, t, hs, rfl, hg, hsx, hsy, by omega, hA.hb, rfl⟩, ?_⟩
    refine bnd_ok (DL.ev_tupD (av_cons ?_))
    refine ev_lcM (ws := [13]) (fun r : List Int => .tup (r.map Dat.int)) (fun r : List Int => .int ((r.length : Nat) : Int)) (by decide) ?_
    refine iv_any (ev_v rfl (bnd_ok ⟨_, _, _, rfl, rfl, rows, rfl, by omega, fun r hr2 => ?_, ?_⟩))
    · refine gv_name (Nat.le_of_ble_eq_true rfl) ⟨rfl, ?_⟩
      refine DL.ev_len (av_cons (ev_v rfl (bnd_ok (av_nil ⟨_, _, _, rfl, rfl, ?_⟩))))
      rw [List.length_map]
      exact onE_ok ⟨rfl, rfl⟩
    refine bnd_ok (av_nil ⟨_, _, _, rfl, rfl, ?_⟩)
    rw [show (rows.map fun r : List Int => Dat.int ((r.length : Nat) : Int)) = (cntP ms.length hs).map Dat.int by rw [← lens_is hR.len hcnt, List.map_map]; rfl]
    refine bnd_ok ⟨_, _, true, rfl, rfl, (hLM _).two (hLM _) (by decide) (by decide), (hLM _).same, ?_⟩
    refine bnd_ok ⟨_, rfl, ?_⟩
    refine bndS_ok ⟨_, rfl, fun h => absurd h (by decide), fun _ => ?_⟩
    refine sv_next (seq_nx ?_)
    try simp only [bks_d]
    -- another story
    refine sv_seq (sv_par3 ?_)
    refine av_cons (ev_lsto (av_nil ⟨Nat.le_of_ble_eq_true rfl, fun ob => ?_⟩))
    refine bnd_ok (av_cons (DL.ev_lstD (av_cons (ev_v rfl (bnd_ok (av_nil ⟨_, _, _, rfl, hsy, by rw [List.length_map]; omega, fun lb => ?_⟩))))))
    refine bnd_ok (av_cons (ev_repO (DL.ev_lst (av_cons (ev_i (bnd_ok (av_nil ⟨[.int 0], rfl, Nat.le_of_ble_eq_true rfl, ?_⟩)))))))
    refine bnd_ok (ev_v rfl (bnd_ok ⟨_, _, rfl, rfl, by omega, by omega, fun pb => ?_⟩))
    refine bnd_ok (av_nil ⟨_, _, _, rfl, Nat.le_of_ble_eq_true rfl, Nat.le_of_ble_eq_true rfl, Nat.le_of_ble_eq_true rfl, ?_⟩)
    refine seq_nx ?_
    rw [Int.toNat_natCast, show (List.replicate ms.length (Dat.int 0)) = (cntP ms.length []).map Dat.int by rw [cntP_nil, List.map_replicate]]
    simp only [bks, bk, List.set, wp, List.map, List.foldl]
    refine sv_seq (sv_for (ws := [6]) ?_)
    refine iv_rng1 (av_cons (DL.ev_len (av_cons (ev_v rfl (bnd_ok (av_nil ⟨_, _, _, rfl, hsy, ?_⟩))))))
    rw [List.length_map]
    refine bnd_ok (av_nil ⟨_, rfl, by omega, by omega, ?_⟩)
    rw [Int.toNat_natCast]
    refine loop_inv (fun i ρ' => ∃ (g1 s1 c1 : Int) (u : Option Ow) (os ls : List Nat), os.length = i ∧ (os ++ ls).Perm hs ∧ ρ' = [some (boxO a g1 s1 c1), some (.d (hObj CH ms)), some (.d sy), some (.d mk), some (.d (.int ms.length)), some (.d (.tup (rowsD rows))), u, none, some (.l ob ((os.map fun (h : Nat) => Dat.int h).map Ow.d)), some (.l lb ((ls.map fun (h : Nat) => Dat.int h).map Ow.d)), some (.l pb (((cntP ms.length []).map Dat.int).map Ow.d)), none, none, none]) ⟨g, sd, c, none, [], hs, rfl, .refl _, rfl⟩ (fun i d ρ' hi he => ?_) (fun ρ' he => ?_)
    · obtain ⟨g1, s1, c1, u, os, ls, hol, hpm, rfl⟩ := he
      have hil : i < hs.length := by
        have := (List.getElem?_eq_some_iff.mp hi).1
        rw [rangeD_len] at this
        exact this
      have hll : os.length + ls.length = hs.length := by rw [← List.length_append]; exact hpm.length_eq
      refine gv_name (Nat.le_of_ble_eq_true rfl) ?_
      refine sv_drop (ev_app ⟨ob, _, rfl, ev_popA ⟨lb, _, rfl, ev_call (av_cons (ev_l rfl ?_))⟩⟩)
      refine bnd_ok (av_cons (ev_lenV (a := lb) (xs := (ls.map fun (h : Nat) => Dat.int h).map Ow.d) rfl ?_ (by rw [List.length_map, List.length_map]; omega)))
      rw [List.length_map, List.length_map]
      refine bnd_ok (av_nil ⟨a, g1, s1, c1, ls.length, rfl, by omega, by omega, fun v g2 s2 c2 v0 v1 => ?_⟩)
      simp only [bks, bk, List.set, bkG_d, bkG_at, bkG_n]
      obtain ⟨j, rfl⟩ : ∃ j : Nat, v = (j : Int) := ⟨v.toNat, by omega⟩
      have hj : j < ls.length := by omega
      refine bnd_ok ⟨ls.map fun (h : Nat) => Dat.int h, j, .int ((ls[j] : Nat) : Int), rfl, rfl, by rw [List.getElem?_map, List.getElem?_eq_getElem hj]; rfl, by rw [List.length_map]; omega, ?_⟩
      refine bnd_ok ⟨_, rfl, by rw [List.length_map, List.length_map]; omega, ?_⟩
      refine bndS_ok (onT_nx (Wk.refl _) ?_)
      refine ⟨g2, s2, c2, some (.d d), os ++ [ls[j]], ls.eraseIdx j, by rw [List.length_append, hol]; rfl, ?_, ?_⟩
      · refine List.Perm.trans ?_ hpm
        rw [List.append_assoc]
        refine List.Perm.append_left _ ?_
        show (ls[j] :: ls.eraseIdx j).Perm ls
        exact erase_perm ls j hj
      · rw [List.map_append, List.map_append]
        simp only [List.set, bk, erase_map]
        rfl
    · obtain ⟨g1, s1, c1, u, os, ls, hol, hpm, rfl⟩ := he
      rw [rangeD_len] at hol
      have hll : os.length + ls.length = hs.length := by rw [← List.length_append]; exact hpm.length_eq
      have hls : ls = [] := List.eq_nil_of_length_eq_zero (by omega)
      subst hls
      rw [List.append_nil] at hpm
      have hbo : ∀ h ∈ os, h < ms.length := fun h hh => hA.hb h (hpm.mem_iff.mp hh)
      have hco : ∀ h r, rows[h]? = some r → os.count h = r.length := fun h r e => by rw [hpm.count_eq]; exact hcnt h r e
      have hol2 : os.length ≤ 100 := by omega
      refine resS_nx (seq_nx ?_)
      refine sv_seq (sv_asg (ev_pure ?_))
      refine av_cons (ev_v rfl (bnd_ok (av_cons (ev_lF rfl (okRs_map _) ?_))))
      rw [dats_map]
      refine bnd_ok (av_cons (ev_v rfl (bnd_ok (av_nil ?_))))
      refine ⟨[hObj CH ms, .lst (os.map fun (h : Nat) => Dat.int h), .tup (rowsD rows)], _, rfl, ⟨ms, _, false, os, _, true, _, rows, rfl, hg, rfl, rfl, by omega, hbo, rfl, rfl, hR.ok Dat.tup (.inl rfl), tup_rowsI rows, hco, rfl⟩, ?_⟩
      refine bndS_ok ⟨Nat.le_of_ble_eq_true rfl, seq_nx ?_⟩
      try simp only [List.set]
      refine sv_seq (sv_for (ws := [11] ++ ([12] ++ [])) ?_)
      refine iv_zip (av_cons (ev_v rfl (bnd_ok (av_cons (ev_v rfl (bnd_ok (av_nil ⟨_, _, _, _, _, _, rfl, rfl, rfl, ?_⟩)))))))
      have hml := marksM_len rows os
      have hmk2 : ∀ u h r, os[u]? = some h → rows[h]? = some r → ∃ hu : (os.take u).count h < r.length, mkAt rows os u = r[(os.take u).count h] := fun u h r e1 e2 => by
        obtain ⟨hu, e3⟩ := List.getElem?_eq_some_iff.mp e1
        have hct := count_take_lt hu
        rw [e3, hco h r e2] at hct
        refine ⟨hct, ?_⟩
        unfold mkAt
        rw [getD_at hu, e3, List.getD_eq_getElem?_getD (l := rows), e2]
        exact getD_at hct
      have hA2 : Along ms os (marksM rows os) := ⟨hg, hml, hbo, fun u h k m e1 e2 e3 => by
        have hu := (List.getElem?_eq_some_iff.mp e1).1
        rw [marksM_get rows hu] at e2
        cases e2
        have hh := hbo h (List.mem_of_getElem? e1)
        have e4 := List.getElem?_eq_getElem (l := rows) (i := h) (by have := hR.len; omega)
        obtain ⟨h1, h2⟩ := hmk2 u h _ e1 e4
        rw [h2]
        exact hR.inm h _ m e4 e3 _ (List.getElem_mem _)⟩
      refine loop_inv (fun i ρ' => ∃ u2 v2, ρ' = [some (boxO a g1 s1 c1), some (.d (hObj CH ms)), some (.d sy), some (.d mk), some (.d (.int ms.length)), some (.d (.tup (rowsD rows))), u, some (.d (.tup ((marksM rows os).map Dat.int))), some (.d (.lst (os.map fun (h : Nat) => Dat.int h))), some (.l lb ((([] : List Nat).map fun (h : Nat) => Dat.int h).map Ow.d)), some (.l pb (((cntP ms.length (os.take i)).map Dat.int).map Ow.d)), u2, v2, none]) ⟨none, none, rfl⟩ (fun i d ρ' hi he => ?_) (fun ρ' he => ?_)
      · obtain ⟨u2, v2, rfl⟩ := he
        obtain ⟨h, hh, rfl⟩ : ∃ h, os[i]? = some h ∧ d = .tup [.int (h : Int), .int (mkAt rows os i)] := by
          rw [zipD_emb, List.zip_map_left, List.map_map, List.getElem?_map] at hi
          cases hx2 : (os.zip (marksM rows os))[i]? with
          | none => rw [hx2] at hi; cases hi
          | some p =>
            rw [hx2] at hi
            obtain ⟨p1, p2⟩ := p
            obtain ⟨h1, h2⟩ := List.getElem?_zip_eq_some.mp hx2
            rw [marksM_get rows (List.getElem?_eq_some_iff.mp h1).1] at h2
            cases h2
            exact ⟨p1, h1, (Option.some.inj hi).symm⟩
        have hlt := hbo h (List.mem_of_getElem? hh)
        have et : os.take (i + 1) = os.take i ++ [h] := by rw [List.take_add_one, hh]; rfl
        have hrh := List.getElem?_eq_getElem (l := rows) (i := h) (by have := hR.len; omega)
        obtain ⟨hct, hm2⟩ := hmk2 i h _ hh hrh
        have hat : atI (rowsD rows) (h : Int) = some (.tup ((rows[h]'(by have := hR.len; omega)).map Dat.int)) := atD_nat (by rw [rowsD, List.getElem?_map, hrh]; rfl)
        have hat2 : atI ((rows[h]'(by have := hR.len; omega)).map Dat.int) (((os.take i).count h : Nat) : Int) = some (.int (mkAt rows os i)) := atD_nat (by
          rw [List.getElem?_map, List.getElem?_eq_getElem hct, hm2]
          rfl)
        have hpl : atI ((cntP ms.length (os.take i)).map Dat.int) (h : Int) = some (.int (((os.take i).count h : Nat) : Int)) := atD_nat (by rw [List.getElem?_map, cntP_get _ hlt]; rfl)
        refine gv_tup rfl (gs_cons (gv_name (Nat.le_of_ble_eq_true rfl) (gs_cons (gv_name (Nat.le_of_ble_eq_true rfl) (gs_nil ?_)))))
        refine sv_seq (sv_if (tv_test (ev_neI ?_)))
        refine ev_ixS (ev_ixS (ev_v rfl (bnd_ok (ev_v rfl (bnd_ok ⟨_, _, _, _, _, rfl, rfl, rfl, hat, ?_⟩)))))
        refine bnd_ok (ev_ixO (ev_v rfl (bnd_ok ⟨rfl, pb, _, _, _, rfl, rfl, hpl, ?_⟩)) ⟨pb, _, rfl⟩)
        refine bnd_ok ⟨_, _, _, _, _, rfl, rfl, rfl, hat2, ?_⟩
        refine bnd_ok (ev_v rfl (bnd_ok ⟨_, _, rfl, rfl, ?_⟩))
        refine bnd_ok ⟨_, rfl, ?_⟩
        rw [decide_eq_true rfl]
        refine bndS_ok ⟨false, rfl, fun h => absurd h Bool.false_ne_true, fun _ => ?_⟩
        refine sv_next (seq_nx ?_)
        refine sv_set (ev_oZ0 (ev_ixO (ev_v rfl (bnd_ok ⟨rfl, pb, _, _, _, rfl, rfl, hpl, ?_⟩)) ⟨pb, _, rfl⟩))
        refine bnd_ok (ev_i (bnd_ok ⟨_, _, rfl, rfl, ?_⟩))
        refine bndS_ok ⟨⟨pb, _, rfl⟩, ?_⟩
        refine ev_v rfl (bndS_ok ⟨rfl, _, pb, _, h, rfl, rfl, rfl, by rw [List.length_map, cntP_len]; exact hlt, ?_⟩)
        rw [et, cntP_snoc _ hlt, List.map_set]
        exact onT_nx (Wk.refl _) ⟨some (.d (.int (h : Int))), some (.d (.int (mkAt rows os i))), rfl⟩
      · obtain ⟨u2, v2, rfl⟩ := he
        refine resS_nx (seq_nx ?_)
        refine sv_ret (ev_andV (ev_eqI ?_))
        refine DL.ev_len (av_cons (ev_v rfl (bnd_ok (av_nil ⟨_, _, _, rfl, rfl, ?_⟩))))
        refine bnd_ok (DL.ev_len (av_cons (ev_v rfl (bnd_ok (av_nil ⟨_, _, _, rfl, rfl, ?_⟩)))))
        rw [List.length_map, List.length_map, hml]
        refine bnd_ok ⟨_, _, rfl, rfl, ?_⟩
        rw [decide_eq_true rfl]
        refine bnd_ok ⟨true, rfl, fun _ => ?_, fun h => absurd h (by decide)⟩
        refine ev_eqD (ev_pure ?_)
        refine av_cons (ev_v rfl (bnd_ok (av_cons (ev_v rfl (bnd_ok (av_cons (ev_v rfl (bnd_ok (av_nil ?_)))))))))
        refine ⟨[hObj CH ms, .lst (os.map fun (h : Nat) => Dat.int h), .tup ((marksM rows os).map Dat.int)], _, rfl, ⟨ms, _, false, os, _, true, marksM rows os, rfl, rfl, rfl, by omega, rfl, rfl, hA2, rfl⟩, ?_⟩
        rw [rows_back hR.len hbo hco]
        refine bnd_ok (ev_v rfl (bnd_ok ⟨_, _, true, rfl, rfl, hR.nice.two hR.nice (by decide) (by decide), hR.nice.same, ?_⟩))
        refine bndS_ok (ret_rt (.own rfl rfl (.dat (.dat (.dat .nil)))) ?_)
        exact q g1 s1 c1

end
end K02

namespace K02
open PySem L2 Evl DL
local macro_rules | `(tactic| walk_at "dl") => `(tactic| first
  | with_reducible refine bnd_ok ?_ | with_reducible refine bndS_ok ?_ | with_reducible refine onE_ok ?_ | with_reducible refine seq_nx ?_ | with_reducible refine seq_rt ?_ | with_reducible refine seq_bk ?_ | with_reducible refine seq_ct ?_ | with_reducible refine onT_rt ?_ | with_reducible refine onT_bk ?_ | with_reducible refine resS_nx ?_ | with_reducible refine resS_rt ?_
  | refine ev_v rfl ?_ | refine ev_l rfl ?_ | with_reducible refine ev_i ?_ | with_reducible refine ev_n ?_ | with_reducible refine ev_b ?_ | with_reducible refine ev_s ?_
  | with_reducible refine ev_oZ0 ?_ | with_reducible refine ev_oB0 ?_ | with_reducible refine ev_oZ ?_ | with_reducible refine ev_neg ?_ | with_reducible refine ev_neI ?_ | with_reducible refine ev_eqI ?_ | with_reducible refine ev_isN ?_ | with_reducible refine ev_notN ?_ | with_reducible refine ev_chain ?_
  | with_reducible refine ev_andV ?_ | with_reducible refine ev_orV ?_ | with_reducible refine ev_notV ?_ | with_reducible refine ev_if ?_
  | with_reducible refine tv_test ?_ | with_reducible refine tv_B ?_ | with_reducible refine tv_and ?_ | with_reducible refine tv_or ?_ | with_reducible refine tv_not ?_ | with_reducible refine tv_yes ?_
  | with_reducible refine ev_isiInt ?_ | with_reducible refine ev_isiBool ?_ | with_reducible refine ev_isiSeq ?_
  | with_reducible refine av_cons ?_ | with_reducible refine av_nil ?_
  | with_reducible refine ev_pure ?_ | with_reducible refine ev_gcd ?_ | with_reducible refine ev_abs ?_ | with_reducible refine ev_int1 ?_
  | (with_reducible refine DL.ev_len ?_; refine av_cons ?_; refine ev_v rfl ?_; refine bnd_ok ?_; refine av_nil ?_; refine ⟨_, _, _, rfl, by first | rfl | assumption, ?_⟩)
  | with_reducible refine ev_fldD ?_ | with_reducible refine ev_ixS ?_
  | with_reducible refine sv_seq ?_ | with_reducible refine sv_next ?_ | with_reducible refine sv_brk ?_ | with_reducible refine sv_cont ?_ | with_reducible refine sv_ret ?_ | with_reducible refine sv_retN ?_ | with_reducible refine sv_if ?_ | with_reducible refine sv_drop ?_
  | with_reducible refine sv_asg ?_
  | refine ⟨_, rfl, fun hb => ?_, fun hb => ?_⟩
  | refine ⟨_, _, rfl, rfl, fun hb => ?_, fun hb => ?_⟩
  | refine ⟨_, _, rfl, rfl, ?_⟩
  | refine ⟨_, _, _, _, rfl, rfl, rfl, ?_⟩
  | refine ⟨_, rfl, ?_⟩ | refine ⟨_, _, rfl, ?_⟩
  | refine And.intro rfl ?_ | refine And.intro (Nat.le_of_ble_eq_true rfl) ?_ | refine And.intro (by assumption) ?_)
local macro_rules | `(tactic| walk_at "dls") => `(tactic| repeat (walk_at "dl"; all_goals try (first | (exact (nomatch ‹false = true›)) | (exact (nomatch ‹true = false›)))))
local macro_rules | `(tactic| walk_at "dla") => `(tactic| repeat' (first | (exact (nomatch ‹false = true›)) | (exact (nomatch ‹true = false›)) | walk_at "dl"))
local macro_rules | `(tactic| walk_at "dlr") => `(tactic| (refine ret_rt (pms_d _ _ (Nat.le_of_ble_eq_true rfl)) ?_))
local macro_rules | `(tactic| walk_at "dlt") => `(tactic| first | walk_at "dl" | with_reducible refine ev_tup2 ?_ | with_reducible refine ev_tup3 ?_)
local macro_rules | `(tactic| walk_at "dlts") => `(tactic| repeat walk_at "dlt")
section
variable {P : Program} {w : World} {K : PySem.W.Frag} [HasTabs K] {mg : Str → Option Value} {base : Heap} {CH CD : Addr}
abbrev s__law_struck_right : Stmt := topS 41
abbrev N__law_struck_right : List Str := ["box", "hands", "logs", "many", "turn", "hand", "due", "none", "log", "at"]
theorem sc__law_struck_right : FnScope N__law_struck_right ["box", "hands", "logs"] (defScope s__law_struck_right) := ⟨rfl, rfl, rfl, by decide +kernel, rfl, by decide +kernel, by decide +kernel⟩
/-- how many entries -/
def totN (rows : List (List Int)) : Nat := (rows.map List.length).sum
theorem totN_cast (rows : List (List Int)) : (rows.map fun r : List Int => ((r.length : Nat) : Int)).sum = (totN rows : Int) := by
  induction rows with
  | nil => rfl
  | cons r rows ih =>
    unfold totN at ih ⊢
    rw [List.map_cons, List.sum_cons, ih, List.map_cons, List.sum_cons]
    omega
theorem totN_set : ∀ {rows : List (List Int)} {h : Nat} {r : List Int}, rows[h]? = some r → r ≠ [] → totN (rows.set h r.dropLast) + 1 = totN rows
  | [], h, r, e, _ => by simp at e
  | x :: rows, 0, r, e, ne => by
    have : x = r := by simpa using e
    subst this
    unfold totN
    rw [List.set_cons_zero, List.map_cons, List.sum_cons, List.map_cons, List.sum_cons, List.length_dropLast]
    have : 0 < x.length := List.length_pos_iff.mpr ne
    omega
  | x :: rows, h + 1, r, e, ne => by
    have := totN_set (rows := rows) (h := h) (r := r) (by simpa using e) ne
    unfold totN at this ⊢
    rw [List.set_cons_succ, List.map_cons, List.sum_cons, List.map_cons, List.sum_cons]
    omega
theorem totN_zero : ∀ {rows : List (List Int)}, totN rows = 0 → rows = List.replicate rows.length []
  | [], _ => rfl
  | x :: rows, e => by
    unfold totN at e
    rw [List.map_cons, List.sum_cons] at e
    have h1 : x = [] := List.eq_nil_of_length_eq_zero (by omega)
    have h2 := totN_zero (rows := rows) (by unfold totN; omega)
    rw [List.length_cons, List.replicate_succ, h1, ← h2]
theorem totN_pos {rows : List (List Int)} (e : 0 < totN rows) : ∃ (j : Nat) (r : List Int), rows[j]? = some r ∧ r ≠ [] := by
  induction rows with
  | nil => exact absurd e (by decide)
  | cons x rows ih =>
    by_cases h : x = []
    · subst h
      have : 0 < totN rows := by unfold totN at e ⊢; simpa using e
      obtain ⟨j, r, h1, h2⟩ := ih this
      exact ⟨j + 1, r, by simpa using h1, h2⟩
    · exact ⟨0, x, rfl, h⟩
theorem totN_le {rows : List (List Int)} {c : Nat} (h : ∀ r ∈ rows, r.length ≤ c) : totN rows ≤ rows.length * c := by
  induction rows with
  | nil => exact Nat.zero_le _
  | cons x rows ih =>
    have h1 := h x List.mem_cons_self
    have h2 := ih fun r hr => h r (List.mem_cons_of_mem _ hr)
    unfold totN at h2 ⊢
    rw [List.map_cons, List.sum_cons, List.length_cons, Nat.succ_mul]
    omega
theorem enum_rows (rows : List (List Int)) : enumD (rowsD rows) = ((List.range rows.length).zip rows).map fun p => .tup [.int (p.1 : Int), .tup (p.2.map Dat.int)] := by
  refine List.ext_getElem? fun j => ?_
  by_cases z : j < rows.length
  · have hr := List.getElem?_eq_getElem z
    rw [enumD_get (show (rowsD rows)[j]? = some (.tup (rows[j].map Dat.int)) by rw [rowsD, List.getElem?_map, hr]; rfl), List.getElem?_map, (List.getElem?_zip_eq_some (z := (j, rows[j]))).mpr ⟨List.getElem?_range z, hr⟩]
    rfl
  · rw [List.getElem?_eq_none (by rw [enumD_len, rowsD, List.length_map]; omega), List.getElem?_eq_none (by rw [List.length_map, List.length_zip]; omega)]
theorem enum_set {rows : List (List Int)} {h : Nat} {r : List Int} (e : rows[h]? = some r) : (((List.range rows.length).zip rows).map fun p => Dat.tup ((if p.1 = h then p.2.dropLast else p.2).map Dat.int)) = rowsD (rows.set h r.dropLast) := by
  have hh := (List.getElem?_eq_some_iff.mp e).1
  refine List.ext_getElem? fun j => ?_
  unfold rowsD
  by_cases z : j < rows.length
  · have hr := List.getElem?_eq_getElem z
    rw [List.getElem?_map, (List.getElem?_zip_eq_some (z := (j, rows[j]))).mpr ⟨List.getElem?_range z, hr⟩, List.getElem?_map]
    by_cases k : h = j
    · subst k
      rw [List.getElem?_set_self hh]
      rw [e] at hr
      cases hr
      show some (Dat.tup (List.map Dat.int (if h = h then rows[h].dropLast else rows[h]))) = _
      rw [if_pos rfl]
      rfl
    · rw [List.getElem?_set_ne k, hr]
      show some (Dat.tup (List.map Dat.int (if j = h then rows[j].dropLast else rows[j]))) = _
      rw [if_neg (fun z => k z.symm)]
      rfl
  · rw [List.getElem?_eq_none (by rw [List.length_map, List.length_zip]; omega), List.getElem?_eq_none (by rw [List.length_map, List.length_set]; omega)]
theorem RowsIn.set {ms : List Int} {rows : List (List Int)} (R : RowsIn ms rows) {h : Nat} {r : List Int} (e : rows[h]? = some r) : RowsIn ms (rows.set h r.dropLast) := by
  refine ⟨by rw [List.length_set]; exact R.len, fun j x m e1 e2 k hk => ?_, fun x hx => ?_⟩
  · by_cases z : h = j
    · subst z
      rw [List.getElem?_set_self (List.getElem?_eq_some_iff.mp e).1] at e1
      cases e1
      exact R.inm h r m e e2 k (by rw [List.dropLast_eq_take] at hk; exact List.mem_of_mem_take hk)
    · rw [List.getElem?_set_ne z] at e1
      exact R.inm j x m e1 e2 k hk
  · rcases List.mem_or_eq_of_mem_set hx with z | z
    · exact R.few x z
    · subst z
      have := R.few r (List.mem_of_getElem? e)
      rw [List.length_dropLast]
      omega
theorem eqv_nil (r : List Int) : PyData.eqv (Dat.tup (r.map Dat.int)).py (Dat.tup []).py = decide (r = []) := by cases r <;> rfl
def R_law_struck_right (CH : Addr) : Pr := fun os Pp => ∃ (a : Addr) (g s c : Int) (ms : List Int) (rows : List (List Int)), os = [boxO a g s c, .d (hObj CH ms), .d (.tup (rowsD rows))] ∧ Good ms ∧ RowsIn ms rows ∧ (∀ r ∈ rows, r.length ≤ 100) ∧ ∀ g' s' c' rows', Pp (.ok (.d (.bl true))) [boxO a g' s' c', .d (hObj CH ms), .d (.tup (rowsD rows'))]
theorem R_law_struck_right_noex (CH : Addr) (os : List Ow) (Pp : Re → List Ow → Prop) (h : R_law_struck_right CH os Pp) : R_law_struck_right CH os (fun r us => (match r with | .ok _ => True | .ex _ _ => False) ∧ Pp r us) := by
  obtain ⟨a, g, s, c, ms, rows, h1, h2, h3, h4, q⟩ := h
  exact ⟨a, g, s, c, ms, rows, h1, h2, h3, h4, fun g' s' c' rows' => ⟨trivial, q g' s' c' rows'⟩⟩
theorem ok__law_struck_right {CS CL CR CN CE c PT : Addr} (T : Txt mg) (Hd : HeardB K mg CS CL CR CN CE) (LH : ClHands K CH) (D__law_heard : Dfn K mg "_law_heard" "_law_heard" s__law_heard ["ask"])
    (TB : LamX.TabB base mg c PT) (hmT : (PT, ("_law_struck_right.<locals>.<lambda>" : Str)) ∈ HasTabs.tt K) (hu : ∀ p ∈ HasTabs.tt K, p.1 = PT → p.2 = ("_law_struck_right.<locals>.<lambda>" : Str))
    (O__law_pick : Ok P w K mg base 2 "_law_pick" ["box", "some"] R_law_pick) (O_struck_logs : Ok P w K mg base 6 "struck_logs" ["hands", "logs", "hand"] (pureR (R_struck_logs CH))) (OK_struck_logs : OkK P w K mg base 6 "struck_logs" ["hands", "logs", "hand"] (pureR (R_struck_logs CH))) (OX_struck_logs : OkX P w K mg base 6 "struck_logs" ["hands", "logs", "hand"] (R_struck_logsX CH CN CL CR))
    (F : DfnC K mg "_law_struck_right" "_law_struck_right" s__law_struck_right ["box", "hands", "logs"] c) : OkG P w K mg base 9 "_law_struck_right" ["box", "hands", "logs"] (R_law_struck_right CH) := by
  refine F.okG sc__law_struck_right (by decide) (fun os Pp h => ?_) (R_law_struck_right_noex CH) (fun f A outer s H E hgd hr => ⟨_, (pss_cons (ps_set (i := 3) sc__law_struck_right.nd rfl (.inl rfl) (pe_fldK (K := K) rfl (pv 1) rfl)) (pss_cons (ps_for PassesOwn.never rfl (pi_range1 (by rfl) T.b_range (pa_cons (pe_callB (r := rSum K) (cr_sum rfl) (by rfl) T.b_sum (by decide +kernel) (pa_cons (pe_lc (own := [("log", 8)]) (g := gName 8) (tt := tYes) rfl sc__law_struck_right.nd (pi_anyK (K := K) rfl (pv 2)) (blkOk_by (own := [("log", 8)]) (N := N__law_struck_right) (sc := defScope s__law_struck_right) (by decide +kernel)) (fun _ _ _ _ _ => (pg_name (i := 8) sc__law_struck_right.nd rfl (.inl rfl))) (fun _ _ _ _ _ => pts_nil) (fun _ _ _ _ _ => (pe_callB (r := rLenQ K) call_len_seq (by rfl) T.b_len (by decide +kernel) (pa_cons (pv 8) pa_nil)))) pa_nil)) pa_nil)) (pg_name (i := 4) sc__law_struck_right.nd rfl (.inl rfl)) (pss_cons (ps_set (i := 5) sc__law_struck_right.nd rfl (.inr rfl) (pe_fn O__law_pick ⟨rfl, rfl, rfl, rfl, rfl⟩ (hr.mono (by decide)) rfl (pa_cons (pv 0) (pa_cons (pe_lc (own := [("at", 9)]) (g := gName 9)  rfl sc__law_struck_right.nd (pi_range1 (by rfl) T.b_range (pa_cons (pv 3) pa_nil)) (blkOk_by (own := [("at", 9)]) (N := N__law_struck_right) (sc := defScope s__law_struck_right) (by decide +kernel)) (fun _ _ _ _ _ => (pg_name (i := 9) sc__law_struck_right.nd rfl (.inl rfl))) (fun _ _ _ _ _ => (pts_one (pt_cmpR (r := rNeD K) (op_neD (units64 hr)) (pe_ix (r := rIx K) ix_seq (pv 2) (pv 9) (fun _ _ => rfl)) (pe_tup pa_nil) (nomark _)))) (fun _ _ _ _ _ => (pv 9))) pa_nil)))) (pss_cons (ps_set (i := 6) sc__law_struck_right.nd rfl (.inl rfl) (pe_callTy (r := rTupO K) call_tuple_of (by rfl) T.b_tuple (by decide +kernel) (pa_cons (pe_lc (own := [("at", 9), ("log", 8)]) (g := gTup K 2 (gCons (gName 9) (gCons (gName 8) (gNil)))) (tt := tYes) rfl sc__law_struck_right.nd (pi_enumK (K := K) rfl (by rfl) T.b_enumerate (pa_cons (pv 2) pa_nil)) (blkOk_by (own := [("at", 9), ("log", 8)]) (N := N__law_struck_right) (sc := defScope s__law_struck_right) (by decide +kernel)) (fun _ _ _ _ _ => (pg_tup rfl (pgs_cons (pg_name (i := 9) sc__law_struck_right.nd rfl (.inl rfl)) (pgs_cons (pg_name (i := 8) sc__law_struck_right.nd rfl (.inl rfl)) pgs_nil)))) (fun _ _ _ _ _ => pts_nil) (fun _ _ _ _ _ => (pe_ifExp (pt_cmpR op_eq (pv 9) (pv 5) (nomark _)) (pe_slice (r := rSlA K) sl_tupA (pv 8) po_none (po_some (pe_un un_neg pe_int))) (pv 8)))) pa_nil))) (pss_cons (ps_if (PW.pt (pw_or (pt_cmpR op_ne (pe_callB (r := rReprD K) (call_reprD hgd (units65 hr)) (by rfl) T.b_repr (by decide +kernel) (pa_cons (pe_fn O_struck_logs ⟨rfl, rfl, rfl, rfl, rfl⟩ (hr.mono (by decide)) rfl (pa_cons (pv 1) (pa_cons (pv 2) (pa_cons (pv 5) pa_nil)))) pa_nil)) (pe_callB (r := rReprD K) (call_reprD hgd (units65 hr)) (by rfl) T.b_repr (by decide +kernel) (pa_cons (pv 6) pa_nil)) (nomark _)) (pw_or1 (pt_cmpR (r := rNeD K) (op_neD (units64 hr)) (pe_fnK OK_struck_logs ⟨rfl, rfl, rfl, rfl, rfl⟩ (hr.mono (by decide)) rfl (pk_cons (pv 5) (pk_cons (pe_lc (own := [("log", 8)]) (g := gName 8) (tt := tYes) rfl sc__law_struck_right.nd (pi_anyK (K := K) rfl (pv 2)) (blkOk_by (own := [("log", 8)]) (N := N__law_struck_right) (sc := defScope s__law_struck_right) (by decide +kernel)) (fun _ _ _ _ _ => (pg_name (i := 8) sc__law_struck_right.nd rfl (.inl rfl))) (fun _ _ _ _ _ => pts_nil) (fun _ _ _ _ _ => (pe_callTy (r := rListO K) call_list_of (by rfl) T.b_list (by decide +kernel) (pa_cons (pv 8) pa_nil)))) (pk_cons (pv 1) pk_nil)))) (pv 6) (nomark _))))) (pss_one (ps_ret pe_bl)) pss_nil) (pss_cons (ps_for PassesOwn.never rfl (pi_anyK (K := K) rfl (pe_slice (r := rSlL K) sl_list (pe_lc (own := [("at", 9)]) (g := gName 9)  rfl sc__law_struck_right.nd (pi_range1 (by rfl) T.b_range (pa_cons (pv 3) pa_nil)) (blkOk_by (own := [("at", 9)]) (N := N__law_struck_right) (sc := defScope s__law_struck_right) (by decide +kernel)) (fun _ _ _ _ _ => (pg_name (i := 9) sc__law_struck_right.nd rfl (.inl rfl))) (fun _ _ _ _ _ => (pts_one (pt_cmpR (r := rEqD K) (op_eqD (units64 hr)) (pe_ix (r := rIx K) ix_seq (pv 2) (pv 9) (fun _ _ => rfl)) (pe_tup pa_nil) (nomark _)))) (fun _ _ _ _ _ => (pv 9))) po_none (po_some pe_int))) (pg_name (i := 7) sc__law_struck_right.nd rfl (.inr rfl)) (pss_one (ps_if (pt_cmpR (r := rNeD K) (op_neD (units64 hr)) (pe_lam (K := K) (mg := mg) (T := HasTabs.tt K) (k := 6) ⟨rfl, rfl⟩ D__law_heard sc__law_heard (.inl rfl) (heard_rule (k := 6) hgd (hr.mono (by decide)) (K := K) (mg := mg) T Hd ⟨rfl, rfl⟩) TB rfl hmT hu (hr.mono (by decide)) rfl (LamX.lamS_by (show LamX.lamSB (defScope s__law_struck_right) _ = true by decide +kernel)) (fun A outer s H E f c' hr => (pe_fnX (E := E) OX_struck_logs (takes_of rfl rfl rfl rfl) ⟨rfl, rfl, rfl, rfl, rfl⟩ (hr.mono (by decide)) rfl (pa_cons (pv 1) (pa_cons (pv 2) (pa_cons (pv 7) pa_nil)))))) (pe_tup (pa_cons pe_str (pa_cons (pe_callB (r := rReprD K) (call_reprD hgd (units65 hr)) (by rfl) T.b_repr (by decide +kernel) (pa_cons (pv 7) pa_nil)) (pa_cons pe_bl pa_nil)))) (nomark _)) (pss_one (ps_ret pe_bl)) pss_nil))) (pss_one (ps_set (i := 2) sc__law_struck_right.nd rfl (.inr rfl) (pv 6)))))))) (pss_one (ps_ret (pe_cmpR (r := rEqD K) (op_eqD (units64 hr)) (pv 2) (pe_op (r := rRepT K) op_repT (pe_tup (pa_cons (pe_tup pa_nil) pa_nil)) (pv 3)) (nomark _)))))), fun os Pp h => ?_⟩)
  · obtain ⟨a, g, sd, c, ms, rows, rfl, q⟩ := h
    rfl
  · obtain ⟨a, g, sd, c, ms, rows, rfl, hg, hR, hfr, q⟩ := h
    have hm8 := hg.2.1
    show SvP K E0 _ [some (boxO a g sd c), some (.d (hObj CH ms)), some (.d (.tup (rowsD rows))), none, none, none, none, none, none, none] _
    have nE : Nice 1 (.tup []) := nice_tup (n := 0) (fun x hx => absurd hx List.not_mem_nil)
    have nR : ∀ r : List Int, Nice 1 (.tup (r.map Dat.int)) := fun r => nice_tup (nice_map fun k _ => nice_int (n := 0) k)
    walk_at "dls"
    refine ⟨_, _, _, rfl, LH.c, LH.n, rfl, ?_⟩
    walk_at "dls"
    refine sv_for (ws := [4]) ?_
    refine iv_rng1 (av_cons (DL.ev_sum (av_cons ?_)))
    refine ev_lcM (ws := [8]) (fun r : List Int => .tup (r.map Dat.int)) (fun r : List Int => .int ((r.length : Nat) : Int)) (by decide) ?_
    have hrl := hR.len
    refine iv_any (ev_v rfl (bnd_ok ⟨_, _, _, rfl, rfl, rows, rfl, by omega, fun r hr2 => ?_, ?_⟩))
    · refine gv_name (Nat.le_of_ble_eq_true rfl) ⟨rfl, ?_⟩
      refine DL.ev_len (av_cons (ev_v rfl (bnd_ok (av_nil ⟨_, _, _, rfl, rfl, ?_⟩))))
      rw [List.length_map]
      exact onE_ok ⟨rfl, rfl⟩
    refine bnd_ok (av_nil ⟨rows.map fun r : List Int => ((r.length : Nat) : Int), by rw [List.map_map]; rfl, ?_⟩)
    rw [totN_cast]
    have hto := totN_le hfr
    have htm : rows.length * 100 ≤ 800 := by have := Nat.mul_le_mul_right 100 (show rows.length ≤ 8 by omega); omega
    refine bnd_ok (av_nil ⟨_, rfl, by omega, by omega, ?_⟩)
    rw [Int.toNat_natCast]
    refine loop_inv (fun i ρ' => ∃ (g1 s1 c1 : Int) (u4 u5 u6 u7 : Option Ow) (rs : List (List Int)), RowsIn ms rs ∧ (∀ r ∈ rs, r.length ≤ 100) ∧ totN rs + i = totN rows ∧ ρ' = [some (boxO a g1 s1 c1), some (.d (hObj CH ms)), some (.d (.tup (rowsD rs))), some (.d (.int ms.length)), u4, u5, u6, u7, none, none]) ⟨g, sd, c, none, none, none, none, rows, hR, hfr, rfl, rfl⟩ (fun i d ρ' hi he => ?_) (fun ρ' he => ?_)
    · obtain ⟨g1, s1, c1, u4, u5, u6, u7, rs, hRs, hfs, htt, rfl⟩ := he
      have hil : i < totN rows := by
        have := (List.getElem?_eq_some_iff.mp hi).1
        rw [rangeD_len] at this
        exact this
      obtain ⟨j0, r0, hj0, hne0⟩ := totN_pos (rows := rs) (by omega)
      have hrsl := hRs.len
      refine gv_name (Nat.le_of_ble_eq_true rfl) ?_
      refine sv_seq (sv_asg (ev_call (av_cons (ev_l rfl (bnd_ok (av_cons ?_))))))
      refine ev_lcF (ws := [9]) (fun u : Nat => .int (u : Int)) (fun u : Nat => .int (u : Int)) (fun u : Nat => !decide (rs.getD u [] = [])) (by decide) ?_
      refine iv_rng1 (av_cons (ev_v rfl (bnd_ok (av_nil ⟨_, rfl, by omega, by omega, List.range ms.length, ?_, by rw [List.length_range]; omega, fun u hu => ?_, ?_⟩))))
      · unfold rangeD
        simp
      · have hu1 := List.mem_range.mp hu
        have hru := List.getElem?_eq_getElem (l := rs) (i := u) (by omega)
        refine gv_name (Nat.le_of_ble_eq_true rfl) ?_
        refine tv_test (ev_neD (ev_ixS (ev_v rfl (bnd_ok (ev_v rfl (bnd_ok ⟨_, _, _, _, _, rfl, rfl, rfl, atD_nat (by rw [rowsD, List.getElem?_map, hru]; rfl), ?_⟩))))))
        refine bnd_ok (ev_tup (ds := []) (av_nil ⟨[], rfl, Nat.le_of_ble_eq_true rfl, ?_⟩))
        refine bnd_ok ⟨_, _, _, rfl, rfl, (nR _).two nE (by decide) (by decide), eqv_nil _, ?_⟩
        refine bnd_ok ⟨_, rfl, ?_⟩
        refine onE_ok ⟨by rw [getD_at (show u < rs.length by omega)], rfl, fun _ => ?_⟩
        exact ev_v rfl (onE_ok ⟨rfl, rfl⟩)
      have hj0l : j0 < ms.length := by have := (List.getElem?_eq_some_iff.mp hj0).1; omega
      have hin : j0 ∈ (List.range ms.length).filter fun u => !decide (rs.getD u [] = []) := by
        refine List.mem_filter.mpr ⟨List.mem_range.mpr hj0l, ?_⟩
        rw [List.getD_eq_getElem?_getD, hj0]
        show (!decide (r0 = [])) = true
        rw [decide_eq_false hne0]
        rfl
      have hpl : 0 < ((List.range ms.length).filter fun u => !decide (rs.getD u [] = [])).length := List.length_pos_of_mem hin
      have hpl2 : ((List.range ms.length).filter fun u => !decide (rs.getD u [] = [])).length ≤ 8 := by
        refine Nat.le_trans (List.length_filter_le _ _) ?_
        rw [List.length_range]
        exact hm8
      refine bnd_ok (av_nil ⟨a, g1, s1, c1, _, rfl, by rw [List.length_map]; exact hpl, by rw [List.length_map]; omega, fun x hx g2 s2 c2 => ?_⟩)
      obtain ⟨h, hhm, rfl⟩ := List.mem_map.mp hx
      obtain ⟨hh1, hh2⟩ := List.mem_filter.mp hhm
      have hhl := List.mem_range.mp hh1
      have hrh := List.getElem?_eq_getElem (l := rs) (i := h) (by omega)
      have hne : rs[h]'(by omega) ≠ [] := fun z => by
        rw [getD_at (show h < rs.length by omega), z] at hh2
        exact absurd hh2 (by decide)
      generalize rs[h]'(by omega) = rh at hrh hne
      simp only [bks, bk, List.set, wp, List.map, List.foldl, bkG_d, bkG_at, bkG_n]
      refine bndS_ok ⟨Nat.le_of_ble_eq_true rfl, seq_nx ?_⟩
      simp only [List.set]
      have hRd := hRs.set hrh
      have hfd : ∀ r ∈ rs.set h rh.dropLast, r.length ≤ 100 := fun r hr => by
        rcases List.mem_or_eq_of_mem_set hr with z | z
        · exact hfs r z
        · subst z
          have := hfs rh (List.mem_of_getElem? hrh)
          rw [List.length_dropLast]
          omega
      have hSD : Shw 2 12000 (.tup (rowsD (rs.set h rh.dropLast))) := hRd.shw hg hfd (by omega) Dat.tup (.inl rfl) Dat.tup (.inl rfl)
      refine sv_seq (sv_asg (DL.ev_tupD (av_cons ?_)))
      refine ev_lcM (ws := [9] ++ ([8] ++ [])) (fun p : Nat × List Int => .tup [.int (p.1 : Int), .tup (p.2.map Dat.int)]) (fun p : Nat × List Int => .tup ((if p.1 = h then p.2.dropLast else p.2).map Dat.int)) (by decide) ?_
      refine iv_enum (av_cons (ev_v rfl (bnd_ok (av_nil ⟨_, _, _, rfl, rfl, (List.range rs.length).zip rs, enum_rows rs, by rw [List.length_zip, List.length_range]; omega, fun p hp => ?_, ?_⟩))))
      · refine gv_tup rfl (gs_cons (gv_name (Nat.le_of_ble_eq_true rfl) (gs_cons (gv_name (Nat.le_of_ble_eq_true rfl) (gs_nil ⟨rfl, ?_⟩)))))
        refine ev_if (tv_test (ev_eqI (ev_v rfl (bnd_ok (ev_v rfl (bnd_ok ⟨_, _, rfl, rfl, ?_⟩))))))
        refine bnd_ok ⟨_, rfl, ?_⟩
        by_cases e : p.1 = h
        · rw [decide_eq_true (show ((p.1 : Nat) : Int) = (h : Int) by omega)]
          refine bnd_ok ⟨_, rfl, fun _ => ?_, fun hb => absurd hb (by decide)⟩
          refine ev_slTu (ev_v rfl (bnd_ok ⟨_, rfl, ?_⟩))
          refine ev_neg (ev_i (bnd_ok ⟨_, rfl, ?_⟩))
          refine bnd_ok ⟨_, rfl, ?_⟩
          rw [cutD_dropLast]
          refine onE_ok ⟨?_, rfl⟩
          rw [if_pos e, List.map_dropLast]
        · rw [decide_eq_false (show ¬ ((p.1 : Nat) : Int) = (h : Int) by omega)]
          refine bnd_ok ⟨_, rfl, fun hb => absurd hb (by decide), fun _ => ?_⟩
          refine ev_v rfl (onE_ok ⟨?_, rfl⟩)
          rw [if_neg e]
      refine bnd_ok (av_nil ⟨_, _, _, rfl, rfl, ?_⟩)
      rw [enum_set hrh]
      refine bndS_ok ⟨Nat.le_of_ble_eq_true rfl, seq_nx ?_⟩
      simp only [bks, bk, List.set, wp, List.map, List.foldl, bkG_d, bkG_at, bkG_n]
      refine sv_seq (sv_if (tv_or (tv_test (ev_neS (ev_repr (av_cons (ev_pure ?_)))))))
      refine av_cons (ev_v rfl (bnd_ok (av_cons (ev_v rfl (bnd_ok (av_cons (ev_v rfl (bnd_ok (av_nil ?_)))))))))
      refine ⟨[hObj CH ms, .tup (rowsD rs), .int h], _, rfl, ⟨ms, _, true, _, rs, h, rh, rfl, hg, rfl, rfl, hRs.ok Dat.tup (.inl rfl), tup_rowsI rs, hrh, hne, rfl⟩, ?_⟩
      refine bnd_ok (av_nil ⟨_, rfl, hSD.ok (by decide) (by decide), ?_⟩)
      refine bnd_ok (ev_repr (av_cons (ev_v rfl (bnd_ok (av_nil ⟨_, rfl, hSD.ok (by decide) (by decide), ?_⟩)))))
      refine bnd_ok ⟨_, _, rfl, rfl, ?_⟩
      refine bnd_ok ⟨_, rfl, ?_⟩
      rw [decide_eq_true rfl]
      refine bnd_ok ⟨false, rfl, fun h => absurd h Bool.false_ne_true, fun _ => ?_⟩
      refine tv_test (ev_neD (ev_callK ?_))
      refine av_cons (ev_v rfl (bnd_ok (av_cons ?_)))
      refine ev_lcM (ws := [8]) (fun r : List Int => .tup (r.map Dat.int)) (fun r : List Int => .lst (r.map Dat.int)) (by decide) ?_
      refine iv_any (ev_v rfl (bnd_ok ⟨_, _, _, rfl, rfl, rs, rfl, by omega, fun r hr2 => ?_, ?_⟩))
      · refine gv_name (Nat.le_of_ble_eq_true rfl) ⟨rfl, ?_⟩
        have := hfs r hr2
        refine ev_frzD (DL.ev_lstD (av_cons (ev_v rfl (bnd_ok (av_nil ⟨_, _, _, rfl, rfl, by rw [List.length_map]; omega, fun b => ?_⟩)))))
        refine ⟨okRs_map _, ?_⟩
        refine onE_ok ⟨?_, rfl⟩
        show Ow.d (Dat.lst (dats _)) = _
        rw [dats_map]
      refine bnd_ok (av_cons (ev_v rfl (bnd_ok (av_nil ?_))))
      refine ⟨[hObj CH ms, .lst (rs.map fun r => Dat.lst (r.map Dat.int)), .int h], _, rfl, ⟨ms, _, false, _, rs, h, rh, rfl, hg, rfl, rfl, hRs.ok Dat.lst (.inr rfl), lst_rowsI rs, hrh, hne, rfl⟩, ?_⟩
      refine bnd_ok (ev_v rfl (bnd_ok ⟨_, _, true, rfl, rfl, hRd.nice.two hRd.nice (by decide) (by decide), hRd.nice.same, ?_⟩))
      refine bnd_ok ⟨_, rfl, ?_⟩
      refine bndS_ok ⟨_, rfl, fun h => absurd h (by decide), fun _ => ?_⟩
      refine sv_next (seq_nx ?_)
      simp only [bks, bk, List.set, wp, List.map, List.foldl, bkG_d, bkG_at, bkG_n]
      refine sv_seq (sv_for (ws := [7]) ?_)
      refine iv_any (ev_slU ?_)
      refine ev_lcF (ws := [9]) (fun u : Nat => .int (u : Int)) (fun u : Nat => .int (u : Int)) (fun u : Nat => decide (rs.getD u [] = [])) (by decide) ?_
      refine iv_rng1 (av_cons (ev_v rfl (bnd_ok (av_nil ⟨_, rfl, by omega, by omega, List.range ms.length, ?_, by rw [List.length_range]; omega, fun u hu => ?_, ?_⟩))))
      · unfold rangeD
        simp
      · have hu1 := List.mem_range.mp hu
        have hru := List.getElem?_eq_getElem (l := rs) (i := u) (by omega)
        refine gv_name (Nat.le_of_ble_eq_true rfl) ?_
        refine tv_test (ev_eqD (ev_ixS (ev_v rfl (bnd_ok (ev_v rfl (bnd_ok ⟨_, _, _, _, _, rfl, rfl, rfl, atD_nat (by rw [rowsD, List.getElem?_map, hru]; rfl), ?_⟩))))))
        refine bnd_ok (ev_tup (ds := []) (av_nil ⟨[], rfl, Nat.le_of_ble_eq_true rfl, ?_⟩))
        refine bnd_ok ⟨_, _, _, rfl, rfl, (nR _).two nE (by decide) (by decide), eqv_nil _, ?_⟩
        refine bnd_ok ⟨_, rfl, ?_⟩
        refine onE_ok ⟨by rw [getD_at (show u < rs.length by omega)], rfl, fun _ => ?_⟩
        exact ev_v rfl (onE_ok ⟨rfl, rfl⟩)
      refine bnd_ok ⟨_, rfl, ev_i (bnd_ok ⟨_, rfl, ?_⟩)⟩
      refine bnd_ok ⟨_, _, _, rfl, rfl, ?_⟩
      simp only [bks, bk, List.set, wp, List.map, List.foldl, bkG_d, bkG_at, bkG_n]
      refine loop_inv (fun i ρ' => ∃ u, ρ' = [some (boxO a g2 s2 c2), some (.d (hObj CH ms)), some (.d (.tup (rowsD rs))), some (.d (.int ms.length)), some (.d d), some (.d (.int h)), some (.d (.tup (rowsD (rs.set h rh.dropLast)))), u, none, none]) ⟨_, rfl⟩ (fun i2 d2 ρ2 hi2 he2 => ?_) (fun ρ2 he2 => ?_)
      · obtain ⟨u, rfl⟩ := he2
        obtain ⟨h2, hm2, rfl⟩ := List.mem_map.mp (cutD_mem (List.mem_of_getElem? hi2))
        obtain ⟨hn1, hn2⟩ := List.mem_filter.mp hm2
        have hn1 := List.mem_range.mp hn1
        have hr2 := List.getElem?_eq_getElem (l := rs) (i := h2) (by omega)
        have hr3 : rs[h2]? = some [] := by
          rw [getD_at (show h2 < rs.length by omega)] at hn2
          rw [hr2, of_decide_eq_true hn2]
        have hsh : Shw 0 11 (.int (h2 : Int)) := shw_int (by omega)
        have nT : Nice 1 (.tup [.str "refused", .str (Dat.int (h2 : Int)).py.shown, .bl true]) := nice_tup (n := 0) (fun x hx => by
          rcases List.mem_cons.mp hx with rfl | hx
          · exact ⟨rfl, laid_of _, Nat.zero_le _⟩
          · rcases List.mem_cons.mp hx with rfl | hx
            · exact ⟨rfl, laid_of _, Nat.zero_le _⟩
            · rcases List.mem_cons.mp hx with rfl | hx
              · exact nice_bl _
              · cases hx)
        refine gv_name (Nat.le_of_ble_eq_true rfl) ?_
        refine sv_if (tv_test (ev_neD (ev_many Hd.ap Hd.ne (fun E' => ?_))))
        refine ev_call (av_cons (ev_v rfl (bnd_ok (av_cons (ev_v rfl (bnd_ok (av_cons (ev_v rfl (bnd_ok (av_nil ?_))))))))))
        refine ⟨ms, .tup (rowsD rs), .int h2, rfl, hg, rfl, rfl, .inr (.inr ⟨true, _, rs, h2, rfl, hRs.ok Dat.tup (.inl rfl), tup_rowsI rs, rfl, hr3, ?_⟩)⟩
        obtain ⟨cl, hc1, hc2, hc3⟩ := Hd.refused hsh (by decide) (by decide)
        refine ⟨cl, hc1, hc2, _, hc3, ?_⟩
        refine bnd_ok (ev_tup3 (ev_s (bnd_ok ⟨_, rfl, ?_⟩)))
        refine ev_repr (av_cons (ev_v rfl (bnd_ok (av_nil ⟨_, rfl, hsh.ok (by decide) (by decide), ?_⟩))))
        refine bnd_ok ⟨_, rfl, ev_b (bnd_ok ⟨_, rfl, ?_⟩)⟩
        refine bnd_ok ⟨_, _, true, rfl, rfl, nT.two nT (by decide) (by decide), nT.same, ?_⟩
        refine bnd_ok ⟨_, rfl, ?_⟩
        refine bndS_ok ⟨_, rfl, fun h => absurd h (by decide), fun _ => ?_⟩
        exact sv_next (onT_nx (Wk.refl _) ⟨_, rfl⟩)
      · obtain ⟨u, rfl⟩ := he2
        refine resS_nx (seq_nx ?_)
        refine sv_asg (ev_v rfl (bndS_ok ⟨Nat.le_of_ble_eq_true rfl, ?_⟩))
        have htd := totN_set hrh hne
        exact onT_nx (Wk.refl _) ⟨g2, s2, c2, _, _, _, _, rs.set h rh.dropLast, hRd, hfd, by omega, rfl⟩
    · obtain ⟨g1, s1, c1, u4, u5, u6, u7, rs, hRs, hfs, htt, rfl⟩ := he
      rw [rangeD_len] at htt
      have hz := totN_zero (rows := rs) (by omega)
      have hrs : rowsD rs = List.replicate ms.length (.tup []) := by
        rw [hz, hRs.len, rowsD, List.map_replicate]
        rfl
      have nF : Nice 2 (.tup (List.replicate ms.length (Dat.tup []))) := nice_tup (n := 1) (fun x hx => by rw [List.eq_of_mem_replicate hx]; exact nE)
      have hl2 := hg.1
      refine resS_nx (seq_nx ?_)
      refine sv_ret (ev_eqD (ev_v rfl (bnd_ok (ev_repT ?_))))
      refine ev_tup (ds := []) (av_cons (ev_tup (ds := []) (av_nil ⟨[], rfl, Nat.le_of_ble_eq_true rfl, ?_⟩)))
      refine bnd_ok (av_nil ⟨[.tup []], rfl, Nat.le_of_ble_eq_true rfl, ?_⟩)
      refine bnd_ok (ev_v rfl (bnd_ok ⟨_, _, rfl, rfl, by omega, by omega, ?_⟩))
      rw [Int.toNat_natCast, hrs]
      refine bnd_ok ⟨_, _, true, rfl, rfl, nF.two nF (by decide) (by decide), nF.same, ?_⟩
      refine bndS_ok (ret_rt (.own rfl rfl (.dat (.dat .nil))) ?_)
      exact q g1 s1 c1 _

end
end K02

namespace K02
open PySem L2 Evl DL
local macro_rules | `(tactic| walk_at "dl") => `(tactic| first
  | with_reducible refine bnd_ok ?_ | with_reducible refine bndS_ok ?_ | with_reducible refine onE_ok ?_ | with_reducible refine seq_nx ?_ | with_reducible refine seq_rt ?_ | with_reducible refine seq_bk ?_ | with_reducible refine seq_ct ?_ | with_reducible refine onT_rt ?_ | with_reducible refine onT_bk ?_ | with_reducible refine resS_nx ?_ | with_reducible refine resS_rt ?_
  | refine ev_v rfl ?_ | refine ev_l rfl ?_ | with_reducible refine ev_i ?_ | with_reducible refine ev_n ?_ | with_reducible refine ev_b ?_ | with_reducible refine ev_s ?_
  | with_reducible refine ev_oZ0 ?_ | with_reducible refine ev_oB0 ?_ | with_reducible refine ev_oZ ?_ | with_reducible refine ev_neg ?_ | with_reducible refine ev_neI ?_ | with_reducible refine ev_eqI ?_ | with_reducible refine ev_isN ?_ | with_reducible refine ev_notN ?_ | with_reducible refine ev_chain ?_
  | with_reducible refine ev_andV ?_ | with_reducible refine ev_orV ?_ | with_reducible refine ev_notV ?_ | with_reducible refine ev_if ?_
  | with_reducible refine tv_test ?_ | with_reducible refine tv_B ?_ | with_reducible refine tv_and ?_ | with_reducible refine tv_or ?_ | with_reducible refine tv_not ?_ | with_reducible refine tv_yes ?_
  | with_reducible refine ev_isiInt ?_ | with_reducible refine ev_isiBool ?_ | with_reducible refine ev_isiSeq ?_
  | with_reducible refine av_cons ?_ | with_reducible refine av_nil ?_
  | with_reducible refine ev_pure ?_ | with_reducible refine ev_gcd ?_ | with_reducible refine ev_abs ?_ | with_reducible refine ev_int1 ?_
  | (with_reducible refine DL.ev_len ?_; refine av_cons ?_; refine ev_v rfl ?_; refine bnd_ok ?_; refine av_nil ?_; refine ⟨_, _, _, rfl, by first | rfl | assumption, ?_⟩)
  | with_reducible refine ev_fldD ?_ | with_reducible refine ev_ixS ?_
  | with_reducible refine sv_seq ?_ | with_reducible refine sv_next ?_ | with_reducible refine sv_brk ?_ | with_reducible refine sv_cont ?_ | with_reducible refine sv_ret ?_ | with_reducible refine sv_retN ?_ | with_reducible refine sv_if ?_ | with_reducible refine sv_drop ?_
  | with_reducible refine sv_asg ?_
  | refine ⟨_, rfl, fun hb => ?_, fun hb => ?_⟩
  | refine ⟨_, _, rfl, rfl, fun hb => ?_, fun hb => ?_⟩
  | refine ⟨_, _, rfl, rfl, ?_⟩
  | refine ⟨_, _, _, _, rfl, rfl, rfl, ?_⟩
  | refine ⟨_, rfl, ?_⟩ | refine ⟨_, _, rfl, ?_⟩
  | refine And.intro rfl ?_ | refine And.intro (Nat.le_of_ble_eq_true rfl) ?_ | refine And.intro (by assumption) ?_)
local macro_rules | `(tactic| walk_at "dls") => `(tactic| repeat (walk_at "dl"; all_goals try (first | (exact (nomatch ‹false = true›)) | (exact (nomatch ‹true = false›)))))
local macro_rules | `(tactic| walk_at "dla") => `(tactic| repeat' (first | (exact (nomatch ‹false = true›)) | (exact (nomatch ‹true = false›)) | walk_at "dl"))
local macro_rules | `(tactic| walk_at "dlr") => `(tactic| (refine ret_rt (pms_d _ _ (Nat.le_of_ble_eq_true rfl)) ?_))
local macro_rules | `(tactic| walk_at "dlt") => `(tactic| first | walk_at "dl" | with_reducible refine ev_tup2 ?_ | with_reducible refine ev_tup3 ?_)
local macro_rules | `(tactic| walk_at "dlts") => `(tactic| repeat walk_at "dlt")
section
variable {P : Program} {w : World} {K : PySem.W.Frag} [HasTabs K] {mg : Str → Option Value} {base : Heap} {CH CD : Addr}
abbrev s_law : Stmt := topS 43
abbrev N_law : List Str := ["script", "k", "logs", "box", "hands", "deed", "cut", "story", "marks", "hand"]
theorem sc_law : FnScope N_law ["script"] (defScope s_law) := ⟨rfl, rfl, rfl, by decide +kernel, rfl, by decide +kernel, by decide +kernel⟩
theorem Along.none {ms : List Int} (g : Good ms) : Along ms [] [] := ⟨g, rfl, fun h hh => absurd hh List.not_mem_nil, fun u h k m e => by rw [List.getElem?_nil] at e; cases e⟩
theorem Along.snoc {ms : List Int} {hs : List Nat} {ks : List Int} (A : Along ms hs ks) {h : Nat} {k m : Int} (e : ms[h]? = some m) (hk : 0 ≤ k ∧ k < m) : Along ms (hs ++ [h]) (ks ++ [k]) := by
  have hl := A.len
  refine ⟨A.g, by rw [List.length_append, List.length_append, hl]; rfl, fun x hx => ?_, fun u x y z e1 e2 e3 => ?_⟩
  · rcases List.mem_append.mp hx with c | c
    · exact A.hb x c
    · rw [List.mem_singleton.mp c]
      exact (List.getElem?_eq_some_iff.mp e).1
  · by_cases c : u < hs.length
    · rw [List.getElem?_append_left c] at e1
      rw [List.getElem?_append_left (by omega)] at e2
      exact A.kb u x y z e1 e2 e3
    · have hu : u = hs.length := by
        have := (List.getElem?_eq_some_iff.mp e1).1
        rw [List.length_append] at this
        have h1 : [h].length = 1 := rfl
        omega
      subst hu
      rw [List.getElem?_append_right (Nat.le_refl _), Nat.sub_self] at e1
      rw [List.getElem?_append_right (by omega), show hs.length - ks.length = 0 by omega] at e2
      cases e1
      cases e2
      rw [e] at e3
      cases e3
      exact hk
theorem Along.take {ms : List Int} {hs : List Nat} {ks : List Int} (A : Along ms hs ks) (n : Nat) : Along ms (hs.take n) (ks.take n) := by
  have hl := A.len
  refine ⟨A.g, by rw [List.length_take, List.length_take, hl], fun x hx => A.hb x (List.mem_of_mem_take hx), fun u x y z e1 e2 e3 => ?_⟩
  have hu : u < n := by
    have := (List.getElem?_eq_some_iff.mp e1).1
    rw [List.length_take] at this
    omega
  rw [List.getElem?_take_of_lt hu] at e1 e2
  exact A.kb u x y z e1 e2 e3
theorem rep_along {n : Nat} : Along [2, 3] (List.replicate n 1) (List.replicate n 2) := by
  refine ⟨⟨by decide, by decide, by decide⟩, by rw [List.length_replicate, List.length_replicate], fun h hh => ?_, fun u h k m e1 e2 e3 => ?_⟩
  · rw [List.eq_of_mem_replicate hh]
    decide
  · rw [List.eq_of_mem_replicate (List.mem_of_getElem? e1)] at e3
    rw [List.eq_of_mem_replicate (List.mem_of_getElem? e2)]
    cases e3
    decide
theorem zip_rep (n : Nat) : (List.replicate n 1).zip (List.replicate n (2 : Int)) = List.replicate n ((1 : Nat), (2 : Int)) := by
  induction n with
  | zero => rfl
  | succ n ih =>
    rw [List.replicate_succ, List.replicate_succ, List.zip_cons_cons, ih]
    rfl
theorem rows_rep (n : Nat) : rowsP 2 ((List.replicate n 1).zip (List.replicate n (2 : Int))) = [[], List.replicate n 2] := by
  have e0 : rowOf (List.replicate n ((1 : Nat), (2 : Int))) 0 = [] := by
    unfold rowOf
    rw [List.filter_replicate]
    rfl
  have e1 : rowOf (List.replicate n ((1 : Nat), (2 : Int))) 1 = List.replicate n 2 := by
    unfold rowOf
    rw [List.filter_replicate]
    show List.map Prod.snd (List.replicate n ((1 : Nat), (2 : Int))) = _
    rw [List.map_replicate]
  rw [zip_rep]
  show [rowOf _ 0, rowOf _ 1] = _
  rw [e0, e1]
theorem rep_marks (n : Nat) : marksM [[], List.replicate n 2] (List.replicate n 1) = List.replicate n 2 := by
  have h := marks_back (n := 2) (ps := (List.replicate n 1).zip (List.replicate n (2 : Int))) (fun p hp => by
    rw [List.eq_of_mem_replicate (List.of_mem_zip hp).1]
    decide)
  rw [rows_rep, List.map_fst_zip (by rw [List.length_replicate, List.length_replicate]; exact Nat.le_refl _), List.map_snd_zip (by rw [List.length_replicate, List.length_replicate]; exact Nat.le_refl _)] at h
  exact h
theorem rep_rows {n : Nat} (h : n ≤ 10000) : RowsIn [2, 3] [[], List.replicate n 2] := by
  have := (rep_along (n := n)).rows (by rw [List.length_replicate]; exact h)
  rw [show ([2, 3] : List Int).length = 2 from rfl, rows_rep] at this
  exact this
theorem rep_seq (n : Nat) : List.replicate n (Dat.int 1) = (List.replicate n 1).map fun (h : Nat) => Dat.int h := by
  rw [List.map_replicate]
  rfl
theorem rep_seq2 (n : Nat) : List.replicate n (Dat.int 2) = (List.replicate n (2 : Int)).map Dat.int := by
  rw [List.map_replicate]
theorem rep_logs (n : Nat) : Dat.tup (rowsD [[], List.replicate n 2]) = .tup [.tup [], .tup (List.replicate n (.int 2))] := by
  unfold rowsD
  rw [List.map_cons, List.map_cons, List.map_replicate]
  rfl
theorem flats_map {ds : List Dat} (h : ∀ d ∈ ds, d.atm = true) : flats (ds.map Ow.d) = true := by
  induction ds with
  | nil => rfl
  | cons d ds ih =>
    show (Ow.flat (.d d) && flats (ds.map Ow.d)) = true
    rw [Bool.and_eq_true]
    exact ⟨h d List.mem_cons_self, ih fun x hx => h x (List.mem_cons_of_mem _ hx)⟩
def hsO (hs : List Nat) : List Ow := (hs.map fun (h : Nat) => Dat.int h).map Ow.d
def ksO (ks : List Int) : List Ow := (ks.map Dat.int).map Ow.d
theorem hsO_snoc (hs : List Nat) (h : Nat) : hsO hs ++ [.d (.int (h : Int))] = hsO (hs ++ [h]) := by
  unfold hsO
  rw [List.map_append, List.map_append]
  rfl
theorem ksO_snoc (ks : List Int) (k : Int) : ksO ks ++ [.d (.int k)] = ksO (ks ++ [k]) := by
  unfold ksO
  rw [List.map_append, List.map_append]
  rfl
/-- a moment is looked at: story and marks are lent -/
theorem mom {CH a sa ma : Addr} {g s c : Int} {x0 x1 : Dat} {ms : List Int} {hs : List Nat} {ks : List Int} {x5 x6 : Option Ow} {P : EPost} (hA : Along ms hs ks) (hl : hs.length ≤ 100)
    (q : ∀ g' s' c', P (.ok (.d (.bl true))) [some (.d x0), some (.d x1), none, some (boxO a g' s' c'), some (.d (hObj CH ms)), none, none, some (.l sa (hsO hs)), some (.l ma (ksO ks)), none]) :
    EvP K E0 (tCall (spOf K (R_law_moment_right CH)) [] E0 (tCons (tVar 3) (tCons (tVar 4) (tCons (tVar 7) (tCons (tVar 8) tNil))))) [some (.d x0), some (.d x1), none, some (boxO a g s c), some (.d (hObj CH ms)), x5, x6, some (.l sa (hsO hs)), some (.l ma (ksO ks)), none] P := by
  have fB : ∀ g s c, (boxO a g s c).flat = true := fun g s c => rfl
  have fS : (Ow.l sa (hsO hs)).flat = true := flats_map fun d hd => by
    obtain ⟨h, _, rfl⟩ := List.mem_map.mp hd
    rfl
  have fM : (Ow.l ma (ksO ks)).flat = true := flats_map fun d hd => by
    obtain ⟨h, _, rfl⟩ := List.mem_map.mp hd
    rfl
  refine ev_lend (i := 7) rfl (okRs_map _) (ev_lend (i := 8) rfl (okRs_map _) ?_)
  simp only [List.set]
  refine DL.ev_call (av_cons (ev_l rfl (bnd_ok (av_cons (ev_v rfl (bnd_ok (av_cons (ev_v rfl (bnd_ok (av_cons (ev_v rfl (bnd_ok (av_nil ?_)))))))))))))
  refine ⟨a, g, s, c, ms, .lst (dats (hsO hs)), false, hs, .lst (dats (ksO ks)), false, ks, rfl, rfl, ?_, rfl, ?_, hA, hl, fun g' s' c' => ?_⟩
  · unfold hsO
    rw [dats_map]
    rfl
  · unfold ksO
    rw [dats_map]
    rfl
  simp only [bks, bk, List.set, bkG_d, bkG_at, bkG_n]
  refine ⟨_, [some (.d x0), some (.d x1), none, some (boxO a g' s' c'), some (.d (hObj CH ms)), none, none, some (.d (.lst (dats (hsO hs)))), none, none], rfl, rfl, .same (.same (.none (.flat (fB _ _ _) (.same (.none (.none (.same (.none (.none .nil))))))))), ?_⟩
  simp only [List.set]
  refine ⟨_, [some (.d x0), some (.d x1), none, some (boxO a g' s' c'), some (.d (hObj CH ms)), none, none, none, some (.l ma (ksO ks)), none], rfl, rfl, .same (.same (.none (.flat (fB _ _ _) (.same (.none (.none (.none (.flat fM (.none .nil))))))))), ?_⟩
  exact q g' s' c'
theorem ok_law {CH : Addr} (T : Txt mg) (LH : ClHands K CH)
    (O__law_box : Ok P w K mg base 1 "_law_box" ["script", "k"] R_law_box) (O__law_take : Ok P w K mg base 1 "_law_take" ["box", "many"] R_law_take) (O__law_pick : Ok P w K mg base 2 "_law_pick" ["box", "some"] R_law_pick) (O_Hands : OkC P w K mg base 5 "Hands" ["self", "marks"] CH (R_Hands CH))
    (O__law_logs : Ok P w K mg base 1 "_law_logs" ["many", "story", "marks"] (pureR R_law_logs)) (O__law_moment_right : OkG P w K mg base 7 "_law_moment_right" ["box", "hands", "story", "marks"] (R_law_moment_right CH)) (O__law_struck_right : OkG P w K mg base 9 "_law_struck_right" ["box", "hands", "logs"] (R_law_struck_right CH)) (O__law_none_right : OkG P w K mg base 9 "_law_none_right" ["box", "hands", "story", "marks"] (R_law_none_right CH))
    (O_laid_logs : Ok P w K mg base 5 "laid_logs" ["hands", "story", "marks"] (pureR (R_laid_logs CH))) (O_marks_along : Ok P w K mg base 6 "marks_along" ["hands", "story", "logs"] (pureR (R_marks_along CH)))
    {f : Addr} {fd : FuncData} (F : Fun K "law" "law" s_law f fd) : FnG P w K mg base 10 f fd ["script"] (spOf K R_lawS) := by
  refine fnG_of F sc_law (by decide) (fun os Pp h => ?_) R_lawS_noex (fun f cdv A outer s H E hgd hr => ⟨_, (pss_cons (ps_for PassesOwn.never rfl (pi_range1 (by rfl) T.b_range (pa_cons pe_int pa_nil)) (pg_name (i := 1) sc_law.nd rfl (.inl rfl)) (pss_cons (ps_set (i := 3) sc_law.nd rfl (.inr rfl) (pe_fn O__law_box ⟨rfl, rfl, rfl, rfl, rfl⟩ (hr.mono (by decide)) rfl (pa_cons (pv 0) (pa_cons (pv 1) pa_nil)))) (pss_cons (ps_set (i := 4) sc_law.nd rfl (.inl rfl) (pe_cls O_Hands ⟨rfl, rfl, rfl, rfl, rfl⟩ (hr.mono (by decide)) rfl (pa_cons (pe_lc (own := [("hand", 9)]) (g := gName 9) (tt := tYes) rfl sc_law.nd (pi_range1 (by rfl) T.b_range (pa_cons (pe_op op_add pe_int (pe_fn O__law_take ⟨rfl, rfl, rfl, rfl, rfl⟩ (hr.mono (by decide)) rfl (pa_cons (pv 3) (pa_cons pe_int pa_nil)))) pa_nil)) (blkOk_by (own := [("hand", 9)]) (N := N_law) (sc := defScope s_law) (by decide +kernel)) (fun _ _ _ _ _ => (pg_name (i := 9) sc_law.nd rfl (.inl rfl))) (fun _ _ _ _ _ => pts_nil) (fun _ _ _ _ _ => (pe_op op_add pe_int (pe_fn O__law_take ⟨rfl, rfl, rfl, rfl, rfl⟩ (hr.mono (by decide)) rfl (pa_cons (pv 3) (pa_cons (pe_fn O__law_pick ⟨rfl, rfl, rfl, rfl, rfl⟩ (hr.mono (by decide)) rfl (pa_cons (pv 3) (pa_cons (pe_lst (pa_cons pe_int (pa_cons pe_int (pa_cons pe_int pa_nil)))) pa_nil))) pa_nil)))))) pa_nil))) (pss_cons (ps_par (i := 7) (j := 8) rfl sc_law.nd rfl rfl (by decide) rfl rfl (pa_cons (pe_lst pa_nil) (pa_cons (pe_lst pa_nil) pa_nil)) rfl) (pss_cons (ps_for PassesOwn.never rfl (pi_range1 (by rfl) T.b_range (pa_cons (pe_op op_add (pe_fn O__law_pick ⟨rfl, rfl, rfl, rfl, rfl⟩ (hr.mono (by decide)) rfl (pa_cons (pv 3) (pa_cons (pe_lst (pa_cons pe_int (pa_cons pe_int (pa_cons pe_int pa_nil)))) pa_nil))) pe_int) pa_nil)) (pg_name (i := 5) sc_law.nd rfl (.inl rfl)) (pss_cons (ps_if (PW.pt (pw_or (pt_cmpR op_lt (pv 5) pe_int (nomark _)) (pw_or1 (pt_cmpR op_eq (pe_fn O__law_take ⟨rfl, rfl, rfl, rfl, rfl⟩ (hr.mono (by decide)) rfl (pa_cons (pv 3) (pa_cons pe_int pa_nil))) pe_int (nomark _))))) (pss_one (ps_if (pt_not (pt_val (pe_fnG O__law_moment_right ⟨rfl, rfl, rfl, rfl, rfl⟩ hgd (hr.mono (by decide)) rfl (pa_cons (pv 3) (pa_cons (pv 4) (pa_cons (pv 7) (pa_cons (pv 8) pa_nil))))))) (pss_one (ps_ret pe_bl)) pss_nil)) pss_nil) (pss_cons (ps_expr (pe_bmK (K := K) rfl PySem.F.plainAttrs_list PySem.F.slot_list_append PySem.F.type_list_append mt_append (pv 7) (pa_cons (pe_fn O__law_take ⟨rfl, rfl, rfl, rfl, rfl⟩ (hr.mono (by decide)) rfl (pa_cons (pv 3) (pa_cons (pe_fldK (K := K) rfl (pv 4) rfl) pa_nil))) pa_nil))) (pss_one (ps_expr (pe_bmK (K := K) rfl PySem.F.plainAttrs_list PySem.F.slot_list_append PySem.F.type_list_append mt_append (pv 8) (pa_cons (pe_fn O__law_take ⟨rfl, rfl, rfl, rfl, rfl⟩ (hr.mono (by decide)) rfl (pa_cons (pv 3) (pa_cons (pe_ix (r := rIx K) ix_seq (pe_fldK (K := K) rfl (pv 4) rfl) (pe_ix (r := rIxL K) ix_list (pv 7) (pe_un un_neg pe_int) (fun _ _ => rfl)) (fun _ _ => rfl)) pa_nil))) pa_nil))))))) (pss_cons (ps_if (PW.pt (pw_or (pt_not (pt_val (pe_fnG O__law_moment_right ⟨rfl, rfl, rfl, rfl, rfl⟩ hgd (hr.mono (by decide)) rfl (pa_cons (pv 3) (pa_cons (pv 4) (pa_cons (pv 7) (pa_cons (pv 8) pa_nil))))))) (pw_or1 (pt_not (pt_val (pe_fnG O__law_struck_right ⟨rfl, rfl, rfl, rfl, rfl⟩ hgd (hr.mono (by decide)) rfl (pa_cons (pv 3) (pa_cons (pv 4) (pa_cons (pe_fn O__law_logs ⟨rfl, rfl, rfl, rfl, rfl⟩ (hr.mono (by decide)) rfl (pa_cons (pe_fldK (K := K) rfl (pv 4) rfl) (pa_cons (pv 7) (pa_cons (pv 8) pa_nil)))) pa_nil))))))))) (pss_one (ps_ret pe_bl)) pss_nil) (pss_cons (ps_set (i := 6) sc_law.nd rfl (.inl rfl) (pe_fn O__law_take ⟨rfl, rfl, rfl, rfl, rfl⟩ (hr.mono (by decide)) rfl (pa_cons (pv 3) (pa_cons pe_int pa_nil)))) (pss_one (ps_if (pt_not (pt_val (pe_fnG O__law_none_right ⟨rfl, rfl, rfl, rfl, rfl⟩ hgd (hr.mono (by decide)) rfl (pa_cons (pv 3) (pa_cons (pv 4) (pa_cons (pe_slice (r := rSlL K) sl_list (pv 7) po_none (po_some (pv 6))) (pa_cons (pe_slice (r := rSlL K) sl_list (pv 8) po_none (po_some (pv 6))) pa_nil))))))) (pss_one (ps_ret pe_bl)) pss_nil))))))))) (pss_cons (ps_if (pt_cmpR op_gt (pe_fn O__law_take ⟨rfl, rfl, rfl, rfl, rfl⟩ (hr.mono (by decide)) rfl (pa_cons (pe_fn O__law_box ⟨rfl, rfl, rfl, rfl, rfl⟩ (hr.mono (by decide)) rfl (pa_cons (pv 0) (pa_cons pe_int pa_nil))) (pa_cons pe_int pa_nil))) pe_int (nomark _)) (pss_one (ps_ret pe_bl)) pss_nil) (pss_cons (ps_set (i := 2) sc_law.nd rfl (.inl rfl) (pe_fn O_laid_logs ⟨rfl, rfl, rfl, rfl, rfl⟩ (hr.mono (by decide)) rfl (pa_cons (pe_cls O_Hands ⟨rfl, rfl, rfl, rfl, rfl⟩ (hr.mono (by decide)) rfl (pa_cons (pe_lst (pa_cons pe_int (pa_cons pe_int pa_nil))) pa_nil)) (pa_cons (pe_op op_rep (pe_lst (pa_cons pe_int pa_nil)) pe_int) (pa_cons (pe_op (r := rRepW K) op_repW (pe_tup (pa_cons pe_int pa_nil)) pe_int) pa_nil))))) (pss_one (ps_ret (pe_and (pe_cmpR (r := rEqD K) (op_eqD (units64 hr)) (pv 2) (pe_tup (pa_cons (pe_tup pa_nil) (pa_cons (pe_op (r := rRepW K) op_repW (pe_tup (pa_cons pe_int pa_nil)) pe_int) pa_nil))) (nomark _)) (pe_one (pe_cmpR (r := rEqD K) (op_eqD (units64 hr)) (pe_fn O_marks_along ⟨rfl, rfl, rfl, rfl, rfl⟩ (hr.mono (by decide)) rfl (pa_cons (pe_cls O_Hands ⟨rfl, rfl, rfl, rfl, rfl⟩ (hr.mono (by decide)) rfl (pa_cons (pe_lst (pa_cons pe_int (pa_cons pe_int pa_nil))) pa_nil)) (pa_cons (pe_op (r := rRepW K) op_repW (pe_tup (pa_cons pe_int pa_nil)) pe_int) (pa_cons (pe_tup (pa_cons (pe_tup pa_nil) (pa_cons (pe_op (r := rRepW K) op_repW (pe_tup (pa_cons pe_int pa_nil)) pe_int) pa_nil))) pa_nil)))) (pe_op (r := rRepW K) op_repW (pe_tup (pa_cons pe_int pa_nil)) pe_int) (nomark _))))))))), fun os Pp h => ?_⟩)
  · obtain ⟨ns, rfl, hl, q⟩ := h
    rfl
  · obtain ⟨ns, rfl, hl, q⟩ := h
    show SvP K E0 _ [some (.d (.scr ns)), none, none, none, none, none, none, none, none, none] _
    refine sv_seq (sv_for (ws := [1]) ?_)
    refine iv_rng1 (av_cons (ev_i (bnd_ok (av_nil ⟨3, rfl, by decide, by decide, ?_⟩))))
    refine loop_inv (fun i ρ' => ρ' = [some (.d (.scr ns)), none, none, none, none, none, none, none, none, none]) rfl (fun i d ρ' hi he => ?_) (fun ρ' he => ?_)
    · obtain rfl := he
      have hi3 : i < 3 := by
        have := (List.getElem?_eq_some_iff.mp hi).1
        rw [rangeD_len] at this
        exact this
      rw [show (3 : Int).toNat = 3 from rfl, rangeD_get hi3] at hi
      cases hi
      refine gv_name (Nat.le_of_ble_eq_true rfl) ?_
      simp only [List.set]
      -- box
      refine sv_seq (sv_asg (DL.ev_call (av_cons (ev_v rfl (bnd_ok (av_cons (ev_v rfl (bnd_ok (av_nil ⟨ns, _, rfl, by omega, by omega, fun a g0 s0 c0 => ?_⟩)))))))))
      simp only [bks, bk, List.set, bkG_d, bkG_at, bkG_n]
      refine bndS_ok ⟨Nat.le_of_ble_eq_true rfl, seq_nx ?_⟩
      simp only [List.set]
      -- hands
      refine sv_seq (sv_asg (DL.ev_make (av_cons ?_) R_Hands_mono))
      refine ev_lcJ (ws := [9]) (fun n : Nat => .int (n : Int)) Dat.int (fun z => 1 ≤ z ∧ z ≤ 60) (fun ρ => ∃ g s c, ρ = [some (.d (.scr ns)), some (.d (.int (0 + (i : Int)))), none, some (boxO a g s c), none, none, none, none, none, none]) (by decide) ?_
      refine iv_rng1 (av_cons (ev_oZ0 (ev_i (bnd_ok (DL.ev_call (av_cons (ev_l rfl (bnd_ok (av_cons (ev_i (bnd_ok (av_nil ⟨a, g0, s0, c0, 4, rfl, by decide, by decide, fun v g1 s1 c1 v0 v1 => ?_⟩))))))))))))
      simp only [bks, bk, List.set, bkG_d, bkG_at, bkG_n]
      refine bnd_ok ⟨_, _, rfl, rfl, ?_⟩
      refine bnd_ok (av_nil ⟨_, rfl, by omega, by omega, List.range (2 + v).toNat, ?_, by rw [List.length_range]; omega, ⟨g1, s1, c1, rfl⟩, fun n _ ρ hj => ?_, fun zs ρ2 hzl hz hj => ?_⟩)
      · unfold rangeD
        simp
      · obtain ⟨g2, s2, c2, rfl⟩ := hj
        refine gv_name (Nat.le_of_ble_eq_true rfl) ?_
        refine ev_oZ0 (ev_i (bnd_ok (DL.ev_call (av_box rfl (DL.ev_call (av_cons (ev_l rfl (bnd_ok (av_cons (DL.ev_lst ?_))))))))))
        refine av_cons (ev_i (bnd_ok (av_cons (ev_i (bnd_ok (av_cons (ev_i (bnd_ok (av_nil ⟨[.int 3, .int 6, .int 60], rfl, Nat.le_of_ble_eq_true rfl, ?_⟩)))))))))
        refine bnd_ok (av_nil ⟨a, g2, s2, c2, _, rfl, by decide, by decide, fun x hx g3 s3 c3 => ?_⟩)
        obtain ⟨m, rfl, hm1, hm2⟩ : ∃ m : Int, x = .int m ∧ 1 ≤ m ∧ m ≤ 60 := by
          rcases List.mem_cons.mp hx with rfl | hx
          · exact ⟨3, rfl, by decide, by decide⟩
          · rcases List.mem_cons.mp hx with rfl | hx
            · exact ⟨6, rfl, by decide, by decide⟩
            · exact ⟨60, List.mem_singleton.mp hx, by decide, by decide⟩
        simp only [bks, bk, List.set, bkG_d, bkG_at, bkG_n]
        refine bnd_ok ⟨_, rfl, ?_⟩
        refine ⟨a, g3, s3, c3, m, rfl, by omega, by omega, fun k g4 s4 c4 k0 k1 => ?_⟩
        simp only [bks, bk, List.set, bkG_d, bkG_at, bkG_n]
        refine bnd_ok ⟨_, _, rfl, rfl, ?_⟩
        refine onE_ok ⟨⟨1 + k, rfl, by omega, by omega⟩, g4, s4, c4, rfl⟩
      obtain ⟨g2, s2, c2, rfl⟩ := hj
      rw [List.length_range] at hzl
      have hg : Good zs := ⟨by omega, by omega, hz⟩
      refine bnd_ok (av_nil fun x => ?_)
      refine ⟨x, _, false, zs, rfl, rfl, rfl, hg, rfl, _, _, rfl, ?_⟩
      refine bndS_ok ⟨Nat.le_of_ble_eq_true rfl, seq_nx ?_⟩
      show SvP K E0 _ [some (.d (.scr ns)), some (.d (.int (0 + (i : Int)))), none, some (boxO a g2 s2 c2), some (.d (hObj CH zs)), none, none, none, none, none] _
      -- an empty story
      refine sv_seq (sv_par (av_cons (ev_lsto (av_nil ⟨Nat.le_of_ble_eq_true rfl, fun sa => ?_⟩))))
      refine bnd_ok (av_cons (ev_lsto (av_nil ⟨Nat.le_of_ble_eq_true rfl, fun ma => ?_⟩)))
      refine bnd_ok (av_nil ⟨_, _, rfl, Nat.le_of_ble_eq_true rfl, Nat.le_of_ble_eq_true rfl, seq_nx ?_⟩)
      show SvP K E0 _ [some (.d (.scr ns)), some (.d (.int (0 + (i : Int)))), none, some (boxO a g2 s2 c2), some (.d (hObj CH zs)), none, none, some (.l sa []), some (.l ma []), none] _
      refine sv_seq (sv_for (ws := [5]) ?_)
      refine iv_rng1 (av_cons (ev_oZ0 (DL.ev_call (av_cons (ev_l rfl (bnd_ok (av_cons (DL.ev_lst ?_))))))))
      refine av_cons (ev_i (bnd_ok (av_cons (ev_i (bnd_ok (av_cons (ev_i (bnd_ok (av_nil ⟨[.int 5, .int 12, .int 40], rfl, Nat.le_of_ble_eq_true rfl, ?_⟩)))))))))
      refine bnd_ok (av_nil ⟨a, g2, s2, c2, _, rfl, by decide, by decide, fun x hx g3 s3 c3 => ?_⟩)
      obtain ⟨m, rfl, hm1, hm2⟩ : ∃ m : Int, x = .int m ∧ 5 ≤ m ∧ m ≤ 40 := by
        rcases List.mem_cons.mp hx with rfl | hx
        · exact ⟨5, rfl, by decide, by decide⟩
        · rcases List.mem_cons.mp hx with rfl | hx
          · exact ⟨12, rfl, by decide, by decide⟩
          · exact ⟨40, List.mem_singleton.mp hx, by decide, by decide⟩
      simp only [bks, bk, List.set, bkG_d, bkG_at, bkG_n]
      refine bnd_ok (ev_i (bnd_ok ⟨_, _, rfl, rfl, ?_⟩))
      refine bnd_ok (av_nil ⟨_, rfl, by omega, by omega, ?_⟩)
      refine loop_inv (fun j ρ' => ∃ (g s c : Int) (u v : Option Ow) (hs : List Nat) (ks : List Int), Along zs hs ks ∧ hs.length = j ∧ ρ' = [some (.d (.scr ns)), some (.d (.int (0 + (i : Int)))), none, some (boxO a g s c), some (.d (hObj CH zs)), u, v, some (.l sa (hsO hs)), some (.l ma (ksO ks)), none]) ⟨g3, s3, c3, _, _, [], [], Along.none hg, rfl, rfl⟩ (fun j d ρ' hj2 he => ?_) (fun ρ' he => ?_)
      · obtain ⟨g4, s4, c4, u, v, hs, ks, hA, hjl, rfl⟩ := he
        have hjm : j < (m + 1).toNat := by
          have := (List.getElem?_eq_some_iff.mp hj2).1
          rw [rangeD_len] at this
          exact this
        rw [rangeD_get hjm] at hj2
        cases hj2
        refine gv_name (Nat.le_of_ble_eq_true rfl) ?_
        simp only [List.set]
        refine sv_seq (SvP.mono (S := fun o => ∃ (g s c : Int) (u v : Option Ow), o = .nx [some (.d (.scr ns)), some (.d (.int (0 + (i : Int)))), none, some (boxO a g s c), some (.d (hObj CH zs)), u, v, some (.l sa (hsO hs)), some (.l ma (ksO ks)), none]) ?_ (fun o ho => ?_))
        · refine sv_if (tv_or (tv_test (ev_oB0 (ev_v rfl (bnd_ok (ev_i (bnd_ok ⟨_, _, rfl, rfl, ?_⟩)))))))
          have hin : ∀ g5 s5 c5, SvP K E0 (tIfS (tNot (tB (tCall (spOf K (R_law_moment_right CH)) [] E0 (tCons (tVar 3) (tCons (tVar 4) (tCons (tVar 7) (tCons (tVar 8) tNil))))))) (tRet (tC (.bl false))) tNext) [some (.d (.scr ns)), some (.d (.int (0 + (i : Int)))), none, some (boxO a g5 s5 c5), some (.d (hObj CH zs)), some (.d (.int (0 + (j : Int)))), v, some (.l sa (hsO hs)), some (.l ma (ksO ks)), none] (fun o => ∃ (g s c : Int) (u v : Option Ow), o = .nx [some (.d (.scr ns)), some (.d (.int (0 + (i : Int)))), none, some (boxO a g s c), some (.d (hObj CH zs)), u, v, some (.l sa (hsO hs)), some (.l ma (ksO ks)), none]) := fun g5 s5 c5 => by
            refine sv_if (tv_not (tv_B (mom hA (by omega) fun g6 s6 c6 => ?_)))
            refine bnd_ok ⟨_, rfl, ?_⟩
            refine bnd_ok ⟨_, rfl, ?_⟩
            refine bndS_ok ⟨_, rfl, fun h => absurd h (by decide), fun _ => ?_⟩
            exact sv_next ⟨g6, s6, c6, _, _, rfl⟩
          refine bnd_ok ⟨_, rfl, ?_⟩
          refine bnd_ok ⟨_, rfl, fun hb => ?_, fun hb => ?_⟩
          · refine bndS_ok ⟨true, rfl, fun _ => hin g4 s4 c4, fun h => absurd h (by decide)⟩
          · refine tv_test (DL.ev_eqI (DL.ev_call (av_cons (ev_l rfl (bnd_ok (av_cons (ev_i (bnd_ok (av_nil ⟨a, g4, s4, c4, 8, rfl, by decide, by decide, fun v g5 s5 c5 v0 v1 => ?_⟩)))))))))
            simp only [bks, bk, List.set, bkG_d, bkG_at, bkG_n]
            refine bnd_ok (ev_i (bnd_ok ⟨_, _, rfl, rfl, ?_⟩))
            refine bnd_ok ⟨_, rfl, ?_⟩
            refine bndS_ok ⟨_, rfl, fun _ => hin g5 s5 c5, fun _ => ?_⟩
            exact sv_next ⟨g5, s5, c5, _, _, rfl⟩
        obtain ⟨g5, s5, c5, u, v, rfl⟩ := ho
        refine seq_nx ?_
        have hz8 := hg.2.1
        have hz2 := hg.1
        -- one deed more
        refine sv_seq (sv_drop (ev_app ⟨sa, _, rfl, DL.ev_call (av_cons (ev_l rfl (bnd_ok (av_cons (ev_fldD (ev_v rfl (bnd_ok ⟨_, _, _, rfl, LH.c, LH.n, rfl, ?_⟩)))))))⟩))
        refine bnd_ok (av_nil ⟨a, g5, s5, c5, _, rfl, by omega, by omega, fun h g6 s6 c6 h0 h1 => ?_⟩)
        obtain ⟨h, rfl⟩ : ∃ n : Nat, h = (n : Int) := ⟨h.toNat, by omega⟩
        simp only [bks, bk, List.set, bkG_d, bkG_at, bkG_n]
        refine bnd_ok ⟨_, rfl, by unfold hsO; rw [List.length_map, List.length_map]; omega, ?_⟩
        simp only [List.set]
        rw [hsO_snoc]
        refine bndS_ok (seq_nx ?_)
        show SvP K E0 _ [some (.d (.scr ns)), some (.d (.int (0 + (i : Int)))), none, some (boxO a g6 s6 c6), some (.d (hObj CH zs)), u, v, some (.l sa (hsO (hs ++ [h]))), some (.l ma (ksO ks)), none] _
        have hzh : zs[h]? = some (zs[h]'(by omega)) := List.getElem?_eq_getElem (by omega)
        have hzb := hz _ (List.mem_of_getElem? hzh)
        refine sv_drop (ev_app ⟨ma, _, rfl, DL.ev_call (av_cons (ev_l rfl (bnd_ok (av_cons ?_))))⟩)
        refine ev_ixS (ev_fldD (ev_v rfl (bnd_ok ⟨_, _, _, rfl, LH.c, LH.m, rfl, ?_⟩)))
        refine bnd_ok (ev_ixO (ev_neg (ev_i (bnd_ok ⟨_, rfl, ?_⟩))) ⟨sa, (hs ++ [h]).map fun (n : Nat) => Dat.int n, rfl⟩)
        refine bnd_ok ⟨rfl, sa, (hs ++ [h]).map fun (n : Nat) => Dat.int n, _, .int h, rfl, rfl, by rw [List.map_append]; exact at_last, ?_⟩
        refine bnd_ok ⟨_, _, _, _, _, rfl, rfl, rfl, atD_nat (by rw [List.getElem?_map, hzh]; rfl), ?_⟩
        refine bnd_ok (av_nil ⟨a, g6, s6, c6, _, rfl, by omega, by omega, fun k g7 s7 c7 k0 k1 => ?_⟩)
        simp only [bks, bk, List.set, bkG_d, bkG_at, bkG_n]
        have hkl := hA.len
        refine bnd_ok ⟨_, rfl, by unfold ksO; rw [List.length_map, List.length_map]; omega, ?_⟩
        simp only [List.set]
        rw [ksO_snoc]
        refine bndS_ok ?_
        exact onT_nx (Wk.refl _) ⟨g7, s7, c7, u, v, hs ++ [h], ks ++ [k], hA.snoc hzh ⟨k0, k1⟩, by rw [List.length_append, hjl]; rfl, rfl⟩
      obtain ⟨g4, s4, c4, u, v, hs, ks, hA, hjl, rfl⟩ := he
      rw [rangeD_len] at hjl
      have hz8 := hg.2.1
      have hkl := hA.len
      have dH : dats (hsO hs) = hs.map fun (h : Nat) => Dat.int h := by unfold hsO; rw [dats_map]
      have dK : dats (ksO ks) = ks.map Dat.int := by unfold ksO; rw [dats_map]
      refine resS_nx (seq_nx ?_)
      show SvP K E0 _ [some (.d (.scr ns)), some (.d (.int (0 + (i : Int)))), none, some (boxO a g4 s4 c4), some (.d (hObj CH zs)), u, v, some (.l sa (hsO hs)), some (.l ma (ksO ks)), none] _
      refine sv_seq (sv_if (tv_or (tv_not (tv_B (mom hA (by omega) fun g5 s5 c5 => ?_)))))
      refine bnd_ok ⟨_, rfl, ?_⟩
      refine bnd_ok ⟨_, rfl, ?_⟩
      refine bnd_ok ⟨_, rfl, fun h => absurd h (by decide), fun _ => ?_⟩
      refine tv_not (tv_B (DL.ev_call (av_cons (ev_l rfl (bnd_ok (av_cons (ev_v rfl (bnd_ok (av_cons (ev_pure ?_))))))))))
      refine av_cons (ev_fldD (ev_v rfl (bnd_ok ⟨_, _, _, rfl, LH.c, LH.n, rfl, ?_⟩)))
      refine bnd_ok (av_cons (ev_lF rfl (okRs_map _) (bnd_ok (av_cons (ev_lF rfl (okRs_map _) (bnd_ok (av_nil ?_)))))))
      rw [dH, dK]
      refine ⟨[.int zs.length, .lst (hs.map fun (h : Nat) => Dat.int h), .lst (ks.map Dat.int)], _, rfl, ⟨zs.length, _, false, hs, _, false, ks, rfl, hz8, rfl, rfl, hkl, by omega, rfl⟩, ?_⟩
      refine bnd_ok (av_nil ?_)
      refine ⟨a, g5, s5, c5, zs, _, rfl, hg, hA.rows (by omega), fun r hr => ?_, fun g6 s6 c6 rows' => ?_⟩
      · obtain ⟨u, hu⟩ := List.getElem?_of_mem hr
        have hul := (List.getElem?_eq_some_iff.mp hu).1
        rw [rowsP_len] at hul
        rw [rowsP_get _ hul] at hu
        cases hu
        rw [rowOf_len, List.map_fst_zip (by omega)]
        refine Nat.le_trans List.count_le_length ?_
        omega
      simp only [bks, bk, List.set, bkG_d, bkG_at, bkG_n]
      refine bnd_ok ⟨_, rfl, ?_⟩
      refine bnd_ok ⟨_, rfl, ?_⟩
      refine bndS_ok ⟨_, rfl, fun h => absurd h (by decide), fun _ => ?_⟩
      refine sv_next (seq_nx ?_)
      -- the story cut
      refine sv_seq (sv_asg (DL.ev_call (av_cons (ev_l rfl (bnd_ok (av_cons (ev_i (bnd_ok (av_nil ⟨a, g6, s6, c6, 7, rfl, by decide, by decide, fun v g7 s7 c7 v0 v1 => ?_⟩)))))))))
      obtain ⟨n, rfl⟩ : ∃ n : Nat, v = (n : Int) := ⟨v.toNat, by omega⟩
      simp only [bks, bk, List.set, bkG_d, bkG_at, bkG_n]
      refine bndS_ok ⟨Nat.le_of_ble_eq_true rfl, seq_nx ?_⟩
      show SvP K E0 _ [some (.d (.scr ns)), some (.d (.int (0 + (i : Int)))), none, some (boxO a g7 s7 c7), some (.d (hObj CH zs)), none, some (.d (.int n)), some (.d (.lst (hs.map fun (h : Nat) => Dat.int h))), some (.d (.lst (ks.map Dat.int))), none] _
      refine sv_if (tv_not (tv_B (DL.ev_call (av_cons (ev_l rfl (bnd_ok (av_cons (ev_v rfl (bnd_ok (av_cons ?_))))))))))
      refine ev_slU (ev_v rfl (bnd_ok ⟨_, rfl, ev_v rfl (bnd_ok ⟨_, rfl, ?_⟩)⟩))
      rw [cut_take]
      refine bnd_ok (av_cons (ev_slU (ev_v rfl (bnd_ok ⟨_, rfl, ev_v rfl (bnd_ok ⟨_, rfl, ?_⟩)⟩))))
      rw [cut_take]
      refine bnd_ok (av_nil ?_)
      rw [← List.map_take, ← List.map_take]
      refine ⟨a, g7, s7, c7, zs, hs.take n, ks.take n, rfl, hA.take n, by rw [List.length_take]; omega, fun g8 s8 c8 => ?_⟩
      simp only [bks, bk, List.set, bkG_d, bkG_at, bkG_n]
      refine bnd_ok ⟨_, rfl, ?_⟩
      refine bnd_ok ⟨_, rfl, ?_⟩
      refine bndS_ok ⟨_, rfl, fun h => absurd h (by decide), fun _ => ?_⟩
      exact sv_next (onT_nx (.cons (.skip (.skip (.skip (.skip (.skip (.skip (.skip (.skip (.skip .nil)))))))))) rfl)
    · obtain rfl := he
      refine resS_nx (seq_nx ?_)
      show SvP K E0 _ [some (.d (.scr ns)), none, none, none, none, none, none, none, none, none] _
      refine sv_seq (sv_if (tv_test (ev_oB0 (DL.ev_call (av_cons (DL.ev_call (av_cons (ev_v rfl (bnd_ok (av_cons (ev_i (bnd_ok (av_nil ⟨ns, 5, rfl, by decide, by decide, fun a g s c => ?_⟩)))))))))))))
      simp only [bks, bk]
      refine bnd_ok (av_cons (ev_i (bnd_ok (av_nil ⟨a, g, s, c, 12, rfl, by decide, by decide, fun v g' s' c' v0 v1 => ?_⟩))))
      simp only [bks, bk]
      refine bnd_ok (ev_i (bnd_ok ⟨_, _, rfl, rfl, ?_⟩))
      refine bnd_ok ⟨_, rfl, ?_⟩
      refine bndS_ok ⟨_, rfl, fun _ => sv_ret (ev_b (bndS_ok (ret_rt (pms_d [.scr ns] _ (Nat.le_of_ble_eq_true rfl)) q))), fun _ => ?_⟩
      refine sv_next (seq_nx ?_)
      show SvP K E0 _ [some (.d (.scr ns)), none, none, none, none, none, none, none, none, none] _
      refine sv_seq (sv_asg (ev_pure (av_cons (DL.ev_make (av_cons (DL.ev_lst ?_)) R_Hands_mono))))
      refine av_cons (ev_i (bnd_ok (av_cons (ev_i (bnd_ok (av_nil ⟨[.int 2, .int 3], rfl, Nat.le_of_ble_eq_true rfl, ?_⟩))))))
      refine bnd_ok (av_nil fun x => ?_)
      refine ⟨x, _, false, [2, 3], rfl, rfl, rfl, (rep_along (n := 0)).g, rfl, _, _, rfl, ?_⟩
      refine bnd_ok (av_cons (ev_frzD (ev_repO (DL.ev_lst (av_cons (ev_i (bnd_ok (av_nil ⟨[.int 1], rfl, Nat.le_of_ble_eq_true rfl, ?_⟩))))))))
      refine bnd_ok (ev_i (bnd_ok ⟨_, _, rfl, rfl, by decide, by decide, fun b => ⟨okRs_map _, ?_⟩⟩))
      show bnd _ _ (.ok (.d (.lst (dats _)))) _
      rw [dats_map]
      refine bnd_ok (av_cons (ev_repW (DL.ev_tup (ds := []) (av_cons (ev_i (bnd_ok (av_nil ⟨[.int 2], rfl, Nat.le_of_ble_eq_true rfl, ?_⟩)))))))
      refine bnd_ok (ev_i (bnd_ok ⟨_, _, rfl, rfl, by decide, by decide, ?_⟩))
      obtain ⟨n, hn⟩ : ∃ n : Nat, n = (10000 : Int).toNat := ⟨_, rfl⟩
      have hn4 : n ≤ 10000 := by omega
      rw [← hn, rep_seq, rep_seq2]
      refine bnd_ok (av_nil ?_)
      refine ⟨[hObj CH [2, 3], .lst ((List.replicate n 1).map fun (h : Nat) => Dat.int h), .tup ((List.replicate n (2 : Int)).map Dat.int)], _, rfl, ⟨[2, 3], _, false, List.replicate n 1, _, true, List.replicate n 2, rfl, rfl, rfl, by rw [List.length_replicate]; exact hn4, rfl, rfl, rep_along, rfl⟩, ?_⟩
      rw [show ([2, 3] : List Int).length = 2 from rfl, rows_rep, rep_logs]
      refine bndS_ok ⟨Nat.le_of_ble_eq_true rfl, seq_nx ?_⟩
      show SvP K E0 _ [some (.d (.scr ns)), none, some (.d (.tup [.tup [], .tup (List.replicate n (.int 2))])), none, none, none, none, none, none, none] _
      have nL : ∀ n : Nat, Nice 1 (.tup (List.replicate n (Dat.int 2))) := fun n => nice_tup (n := 0) (fun x hx => by rw [List.eq_of_mem_replicate hx]; exact nice_int _)
      have nLL : ∀ n : Nat, Nice 2 (.tup [.tup [], .tup (List.replicate n (Dat.int 2))]) := fun n => nice_tup (n := 1) (fun x hx => by
        rcases List.mem_cons.mp hx with rfl | hx
        · exact nice_tup (n := 0) (fun y hy => absurd hy List.not_mem_nil)
        · rw [List.mem_singleton.mp hx]
          exact nL n)
      refine sv_ret (ev_andV (ev_eqD (ev_v rfl (bnd_ok (DL.ev_tup (ds := []) (av_cons (DL.ev_tup (ds := []) (av_nil ⟨[], rfl, Nat.le_of_ble_eq_true rfl, ?_⟩))))))))
      refine bnd_ok (av_cons (ev_repW (DL.ev_tup (ds := []) (av_cons (ev_i (bnd_ok (av_nil ⟨[.int 2], rfl, Nat.le_of_ble_eq_true rfl, ?_⟩)))))))
      refine bnd_ok (ev_i (bnd_ok ⟨_, _, rfl, rfl, by decide, by decide, ?_⟩))
      rw [← hn]
      refine bnd_ok (av_nil ⟨[.tup [], .tup (List.replicate n (.int 2))], rfl, Nat.le_of_ble_eq_true rfl, ?_⟩)
      refine bnd_ok ⟨_, _, true, rfl, rfl, (nLL n).two (nLL n) (by decide) (by decide), (nLL n).same, ?_⟩
      refine bnd_ok ⟨true, rfl, fun _ => ?_, fun h => absurd h (by decide)⟩
      refine ev_eqD (ev_pure (av_cons (DL.ev_make (av_cons (DL.ev_lst ?_)) R_Hands_mono)))
      refine av_cons (ev_i (bnd_ok (av_cons (ev_i (bnd_ok (av_nil ⟨[.int 2, .int 3], rfl, Nat.le_of_ble_eq_true rfl, ?_⟩))))))
      refine bnd_ok (av_nil fun x => ?_)
      refine ⟨x, _, false, [2, 3], rfl, rfl, rfl, (rep_along (n := 0)).g, rfl, _, _, rfl, ?_⟩
      refine bnd_ok (av_cons (ev_repW (DL.ev_tup (ds := []) (av_cons (ev_i (bnd_ok (av_nil ⟨[.int 1], rfl, Nat.le_of_ble_eq_true rfl, ?_⟩)))))))
      refine bnd_ok (ev_i (bnd_ok ⟨_, _, rfl, rfl, by decide, by decide, ?_⟩))
      refine bnd_ok (av_cons (DL.ev_tup (ds := []) (av_cons (DL.ev_tup (ds := []) (av_nil ⟨[], rfl, Nat.le_of_ble_eq_true rfl, ?_⟩)))))
      refine bnd_ok (av_cons (ev_repW (DL.ev_tup (ds := []) (av_cons (ev_i (bnd_ok (av_nil ⟨[.int 2], rfl, Nat.le_of_ble_eq_true rfl, ?_⟩)))))))
      refine bnd_ok (ev_i (bnd_ok ⟨_, _, rfl, rfl, by decide, by decide, ?_⟩))
      obtain ⟨m, hm⟩ : ∃ m : Nat, m = (400 : Int).toNat := ⟨_, rfl⟩
      have hm4 : m ≤ 10000 := by omega
      rw [← hm]
      refine bnd_ok (av_nil ⟨[.tup [], .tup (List.replicate m (.int 2))], rfl, Nat.le_of_ble_eq_true rfl, ?_⟩)
      rw [rep_seq, ← rep_logs]
      refine bnd_ok (av_nil ?_)
      refine ⟨[hObj CH [2, 3], .tup ((List.replicate m 1).map fun (h : Nat) => Dat.int h), .tup (rowsD [[], List.replicate m 2])], _, rfl, ⟨[2, 3], _, true, List.replicate m 1, _, true, _, [[], List.replicate m 2], rfl, (rep_along (n := 0)).g, rfl, rfl, by rw [List.length_replicate]; exact hm4, (rep_along (n := m)).hb, rfl, rfl, (rep_rows hm4).ok Dat.tup (.inl rfl), tup_rowsI _, fun h r e => ?_, rfl⟩, ?_⟩
      · have key : rowsP 2 ((List.replicate m 1).zip (List.replicate m (2 : Int))) = [[], List.replicate m 2] := rows_rep m
        rw [← key] at e
        have hh : h < 2 := by
          have := (List.getElem?_eq_some_iff.mp e).1
          rw [rowsP_len] at this
          exact this
        rw [rowsP_get _ hh] at e
        cases e
        rw [rowOf_len, List.map_fst_zip (by rw [List.length_replicate, List.length_replicate]; exact Nat.le_refl _)]
      rw [rep_marks, ← rep_seq2]
      refine bnd_ok (ev_repW (DL.ev_tup (ds := []) (av_cons (ev_i (bnd_ok (av_nil ⟨[.int 2], rfl, Nat.le_of_ble_eq_true rfl, ?_⟩))))))
      refine bnd_ok (ev_i (bnd_ok ⟨_, _, rfl, rfl, by decide, by decide, ?_⟩))
      rw [← hm]
      refine bnd_ok ⟨_, _, true, rfl, rfl, (nL m).two (nL m) (by decide) (by decide), (nL m).same, ?_⟩
      refine bndS_ok (ret_rt (pms_d [.scr ns] _ (Nat.le_of_ble_eq_true rfl)) ?_)
      exact q

end
end K02

namespace K02
open PySem L2 Evl DL
local macro_rules | `(tactic| walk_at "dl") => `(tactic| first
  | with_reducible refine bnd_ok ?_ | with_reducible refine bndS_ok ?_ | with_reducible refine onE_ok ?_ | with_reducible refine seq_nx ?_ | with_reducible refine seq_rt ?_ | with_reducible refine seq_bk ?_ | with_reducible refine seq_ct ?_ | with_reducible refine onT_rt ?_ | with_reducible refine onT_bk ?_ | with_reducible refine resS_nx ?_ | with_reducible refine resS_rt ?_
  | refine ev_v rfl ?_ | refine ev_l rfl ?_ | with_reducible refine ev_i ?_ | with_reducible refine ev_n ?_ | with_reducible refine ev_b ?_ | with_reducible refine ev_s ?_
  | with_reducible refine ev_oZ0 ?_ | with_reducible refine ev_oB0 ?_ | with_reducible refine ev_oZ ?_ | with_reducible refine ev_neg ?_ | with_reducible refine ev_neI ?_ | with_reducible refine ev_eqI ?_ | with_reducible refine ev_isN ?_ | with_reducible refine ev_notN ?_ | with_reducible refine ev_chain ?_
  | with_reducible refine ev_andV ?_ | with_reducible refine ev_orV ?_ | with_reducible refine ev_notV ?_ | with_reducible refine ev_if ?_
  | with_reducible refine tv_test ?_ | with_reducible refine tv_B ?_ | with_reducible refine tv_and ?_ | with_reducible refine tv_or ?_ | with_reducible refine tv_not ?_ | with_reducible refine tv_yes ?_
  | with_reducible refine ev_isiInt ?_ | with_reducible refine ev_isiBool ?_ | with_reducible refine ev_isiSeq ?_
  | with_reducible refine av_cons ?_ | with_reducible refine av_nil ?_
  | with_reducible refine ev_pure ?_ | with_reducible refine ev_gcd ?_ | with_reducible refine ev_abs ?_ | with_reducible refine ev_int1 ?_
  | (with_reducible refine DL.ev_len ?_; refine av_cons ?_; refine ev_v rfl ?_; refine bnd_ok ?_; refine av_nil ?_; refine ⟨_, _, _, rfl, by first | rfl | assumption, ?_⟩)
  | with_reducible refine ev_fldD ?_ | with_reducible refine ev_ixS ?_
  | with_reducible refine sv_seq ?_ | with_reducible refine sv_next ?_ | with_reducible refine sv_brk ?_ | with_reducible refine sv_cont ?_ | with_reducible refine sv_ret ?_ | with_reducible refine sv_retN ?_ | with_reducible refine sv_if ?_ | with_reducible refine sv_drop ?_
  | with_reducible refine sv_asg ?_
  | refine ⟨_, rfl, fun hb => ?_, fun hb => ?_⟩
  | refine ⟨_, _, rfl, rfl, fun hb => ?_, fun hb => ?_⟩
  | refine ⟨_, _, rfl, rfl, ?_⟩
  | refine ⟨_, _, _, _, rfl, rfl, rfl, ?_⟩
  | refine ⟨_, rfl, ?_⟩ | refine ⟨_, _, rfl, ?_⟩
  | refine And.intro rfl ?_ | refine And.intro (Nat.le_of_ble_eq_true rfl) ?_ | refine And.intro (by assumption) ?_)
local macro_rules | `(tactic| walk_at "dls") => `(tactic| repeat (walk_at "dl"; all_goals try (first | (exact (nomatch ‹false = true›)) | (exact (nomatch ‹true = false›)))))
local macro_rules | `(tactic| walk_at "dla") => `(tactic| repeat' (first | (exact (nomatch ‹false = true›)) | (exact (nomatch ‹true = false›)) | walk_at "dl"))
local macro_rules | `(tactic| walk_at "dlr") => `(tactic| (refine ret_rt (pms_d _ _ (Nat.le_of_ble_eq_true rfl)) ?_))
local macro_rules | `(tactic| walk_at "dlt") => `(tactic| first | walk_at "dl" | with_reducible refine ev_tup2 ?_ | with_reducible refine ev_tup3 ?_)
local macro_rules | `(tactic| walk_at "dlts") => `(tactic| repeat walk_at "dlt")
section
variable {P : Program} {w : World} {K : PySem.W.Frag} [HasTabs K] {mg : Str → Option Value} {base : Heap} {CH CD : Addr}
theorem all_top {CE CL CN CR CS : Addr} {c1 PT1 c2 PT2 : Addr} (T : Txt mg) (LH : ClHands K CH) (Hd : HeardB K mg CS CL CR CN CE) (TB1 : LamX.TabB base mg c1 PT1) (hmT1 : (PT1, ("_law_struck_right.<locals>.<lambda>" : Str)) ∈ HasTabs.tt K) (hu1 : ∀ p ∈ HasTabs.tt K, p.1 = PT1 → p.2 = ("_law_struck_right.<locals>.<lambda>" : Str)) (TB2 : LamX.TabB base mg c2 PT2) (hmT2 : (PT2, ("_law_none_right.<locals>.<lambda>" : Str)) ∈ HasTabs.tt K) (hu2 : ∀ p ∈ HasTabs.tt K, p.1 = PT2 → p.2 = ("_law_none_right.<locals>.<lambda>" : Str))
    (D_is_sequence : Dfn K mg "is_sequence" "is_sequence" s_is_sequence ["value"])
    (D_is_number : Dfn K mg "is_number" "is_number" s_is_number ["value"])
    (D_is_below : Dfn K mg "is_below" "is_below" s_is_below ["value", "bound"])
    (D_is_marks_number : Dfn K mg "is_marks_number" "is_marks_number" s_is_marks_number ["value"])
    (D_wrong_marks : DfnT K mg "wrong_marks" "wrong_marks" s_wrong_marks ["value", "fewest", "most"] (.int 2) (.int 8))
    (D_Hands : Cfn K mg "Hands" "Hands.__init__" s_Hands___init__ ["self", "marks"] CH)
    (D_fits_bounds : Dfn K mg "fits_bounds" "fits_bounds" s_fits_bounds ["value", "bounds"])
    (D_is_log : Dfn K mg "is_log" "is_log" s_is_log ["value", "marks"])
    (D_as_tuples : Dfn K mg "as_tuples" "as_tuples" s_as_tuples ["rows"])
    (D_check_logs : Dfn K mg "check_logs" "check_logs" s_check_logs ["hands", "value"])
    (D_empty_logs : Dfn K mg "empty_logs" "empty_logs" s_empty_logs ["hands"])
    (D_last_marks : Dfn K mg "last_marks" "last_marks" s_last_marks ["hands", "logs"])
    (D__law_box : Dfn K mg "_law_box" "_law_box" s__law_box ["script", "k"])
    (D__law_take : Dfn K mg "_law_take" "_law_take" s__law_take ["box", "many"])
    (D__law_pick : Dfn K mg "_law_pick" "_law_pick" s__law_pick ["box", "some"])
    (D_Refused : DfnE K mg "Refused" "Refused.__init__" s_Refused___init__ CR ["at"])
    (D_BadStory : DfnE K mg "BadStory" "BadStory.__init__" s_BadStory___init__ CS ["at"])
    (D_BadLogs : DfnE K mg "BadLogs" "BadLogs.__init__" s_BadLogs___init__ CL ["at"])
    (D_NoHand : DfnN K mg "NoHand" "NoHand.__init__" s_NoHand___init__ CN "hand")
    (D_check_items : Dfn K mg "check_items" "check_items" s_check_items ["value", "bound"])
    (D_check_story : Dfn K mg "check_story" "check_story" s_check_story ["hands", "value"])
    (D_laid_logs : DfnK K mg "laid_logs" "laid_logs" s_laid_logs ["hands", "story", "marks"])
    (D_story_counts : Dfn K mg "story_counts" "story_counts" s_story_counts ["hands", "story"])
    (D_marks_along : DfnK K mg "marks_along" "marks_along" s_marks_along ["hands", "story", "logs"])
    (D_need_hand : Dfn K mg "need_hand" "need_hand" s_need_hand ["hands", "hand"])
    (D_with_item : Dfn K mg "with_item" "with_item" s_with_item ["row", "at", "item"])
    (D_struck_logs : DfnK K mg "struck_logs" "struck_logs" s_struck_logs ["hands", "logs", "hand"])
    (D__law_logs : Dfn K mg "_law_logs" "_law_logs" s__law_logs ["many", "story", "marks"])
    (D__law_heard : Dfn K mg "_law_heard" "_law_heard" s__law_heard ["ask"])
    (D__law_none_right : DfnC K mg "_law_none_right" "_law_none_right" s__law_none_right ["box", "hands", "story", "marks"] c2)
    (D__law_moment_right : Dfn K mg "_law_moment_right" "_law_moment_right" s__law_moment_right ["box", "hands", "story", "marks"])
    (D__law_struck_right : DfnC K mg "_law_struck_right" "_law_struck_right" s__law_struck_right ["box", "hands", "logs"] c1)
    {f : Addr} {fd : FuncData} (F : Fun K "law" "law" s_law f fd) : FnG P w K mg base 10 f fd ["script"] (spOf K R_lawS) := by
  have O_is_sequence := ok_is_sequence (P := P) (w := w) (base := base)  T D_is_sequence
  have O_is_number := ok_is_number (P := P) (w := w) (base := base)  T D_is_number
  have O_is_below := ok_is_below (P := P) (w := w) (base := base)  T O_is_number D_is_below
  have O_is_marks_number := ok_is_marks_number (P := P) (w := w) (base := base)  T O_is_below D_is_marks_number
  obtain ⟨O_wrong_marks, OT_wrong_marks⟩ := ok_wrong_marks (P := P) (w := w) (base := base)  T O_is_sequence O_is_marks_number D_wrong_marks
  have O_Hands := ok_Hands (P := P) (w := w) (base := base) (CH := CH) T LH OT_wrong_marks D_Hands
  have O_fits_bounds := ok_fits_bounds (P := P) (w := w) (base := base)  T O_is_sequence O_is_below D_fits_bounds
  have O_is_log := ok_is_log (P := P) (w := w) (base := base)  T O_is_sequence O_fits_bounds D_is_log
  have O_as_tuples := ok_as_tuples (P := P) (w := w) (base := base)  T D_as_tuples
  have O_check_logs := ok_check_logs (P := P) (w := w) (base := base) (CH := CH) T LH O_is_sequence O_is_log O_as_tuples D_check_logs
  have O_empty_logs := ok_empty_logs (P := P) (w := w) (base := base) (CH := CH) T LH D_empty_logs
  have O_last_marks := ok_last_marks (P := P) (w := w) (base := base) (CH := CH) T LH O_check_logs D_last_marks
  have O__law_box := ok__law_box (P := P) (w := w) (base := base)  T D__law_box
  have O__law_take := ok__law_take (P := P) (w := w) (base := base)  T D__law_take
  have O__law_pick := ok__law_pick (P := P) (w := w) (base := base)  T O__law_take D__law_pick
  have ER_Refused := er_Refused (P := P) (w := w) (base := base) (CR := CR) D_Refused
  have ER_BadStory := er_BadStory (P := P) (w := w) (base := base) (CS := CS) D_BadStory
  have ER_BadLogs := er_BadLogs (P := P) (w := w) (base := base) (CL := CL) D_BadLogs
  have EN_NoHand := er_NoHand (P := P) (w := w) (base := base) (CN := CN) D_NoHand
  have O_check_items := ok_check_items (P := P) (w := w) (base := base)  T O_is_sequence O_is_below D_check_items
  have O_check_story := ok_check_story (P := P) (w := w) (base := base) (CH := CH) T LH O_check_items D_check_story
  obtain ⟨O_laid_logs, OK_laid_logs⟩ := ok_laid_logs (P := P) (w := w) (base := base) (CH := CH) T LH O_check_story O_fits_bounds O_empty_logs O_as_tuples D_laid_logs
  have OX_check_items := okx_check_items (P := P) (w := w) (base := base) (CS := CS) T ER_BadStory O_is_sequence O_is_below D_check_items
  have OX_check_story := okx_check_story (P := P) (w := w) (base := base) (CH := CH) (CS := CS) T LH OX_check_items D_check_story
  have OX_laid_logs := okx_laid_logs (P := P) (w := w) (base := base) (CH := CH) (CR := CR) (CS := CS) T LH ER_Refused OX_check_story O_fits_bounds O_empty_logs O_as_tuples D_laid_logs
  have O_story_counts := ok_story_counts (P := P) (w := w) (base := base) (CH := CH) T LH O_check_story D_story_counts
  obtain ⟨O_marks_along, OK_marks_along⟩ := ok_marks_along (P := P) (w := w) (base := base) (CH := CH) T LH O_check_story O_check_logs O_story_counts D_marks_along
  have OX_check_logs := okx_check_logs (P := P) (w := w) (base := base) (CH := CH) (CL := CL) T LH ER_BadLogs O_is_sequence O_is_log O_as_tuples D_check_logs
  have OX_marks_along := okx_marks_along (P := P) (w := w) (base := base) (CH := CH) (CL := CL) (CR := CR) (CS := CS) T LH ER_Refused OX_check_story OX_check_logs O_story_counts D_marks_along
  have O_need_hand := ok_need_hand (P := P) (w := w) (base := base) (CH := CH) T LH O_is_below D_need_hand
  have O_with_item := ok_with_item (P := P) (w := w) (base := base)  T D_with_item
  obtain ⟨O_struck_logs, OK_struck_logs⟩ := ok_struck_logs (P := P) (w := w) (base := base) (CH := CH) T LH O_check_logs O_need_hand O_with_item D_struck_logs
  have OX_need_hand := okx_need_hand (P := P) (w := w) (base := base) (CH := CH) (CN := CN) T LH EN_NoHand O_is_below D_need_hand
  have OX_struck_logs := okx_struck_logs (P := P) (w := w) (base := base) (CH := CH) (CL := CL) (CN := CN) (CR := CR) T LH ER_Refused OX_check_logs OX_need_hand O_with_item D_struck_logs
  have O__law_logs := ok__law_logs (P := P) (w := w) (base := base)  T D__law_logs
  have O__law_none_right := ok__law_none_right (P := P) (w := w) (base := base) (CE := CE) (CH := CH) (CL := CL) (CN := CN) (CR := CR) (CS := CS) (PT := PT2) (c := c2) T Hd LH D__law_heard TB2 hmT2 hu2 O__law_take O__law_pick O__law_logs OX_laid_logs OX_marks_along OX_struck_logs D__law_none_right
  have O__law_moment_right := ok__law_moment_right (P := P) (w := w) (base := base) (CH := CH) T LH O__law_take O__law_logs O_last_marks O_story_counts O_laid_logs OK_laid_logs O_marks_along OK_marks_along D__law_moment_right
  have O__law_struck_right := ok__law_struck_right (P := P) (w := w) (base := base) (CE := CE) (CH := CH) (CL := CL) (CN := CN) (CR := CR) (CS := CS) (PT := PT1) (c := c1) T Hd LH D__law_heard TB1 hmT1 hu1 O__law_pick O_struck_logs OK_struck_logs OX_struck_logs D__law_struck_right
  exact ok_law T LH O__law_box O__law_take O__law_pick O_Hands O__law_logs O__law_moment_right O__law_struck_right O__law_none_right O_laid_logs O_marks_along F
theorem all_end {CE CL CN CR CS : Addr} {c1 PT1 c2 PT2 : Addr} {h : Heap} {fa f : Addr} {oc kV doc pm cdv ct : Value} {od an : Option Addr} {osl : Array (Option Value)} (X : K.In h) (G : h.Ns mainGlobals mg) (hfa : mg "law" = some (.ref fa)) (aCH : PySem.W.nsIn K mainGlobals "Hands" = some (some (.ref CH)))
    (al : PySem.W.nsIn K mainGlobals "law" = some (some (.ref f))) (ll : K.lookup f = some ⟨oc, od, .func (PySem.W.fnOf "law" "law" (defArgs s_law) (defBody s_law) (defScope s_law) .none kV doc pm an cdv ct), osl⟩) (cl : PySem.W.codeIn K cdv "law" = true) (kl : PySem.W.keepIn K (.ref f) = true)
    (T : Txt mg) (LH : ClHands K CH) (Hd : HeardB K mg CS CL CR CN CE) (hmT1 : (PT1, ("_law_struck_right.<locals>.<lambda>" : Str)) ∈ HasTabs.tt K) (hu1 : ∀ p ∈ HasTabs.tt K, p.1 = PT1 → p.2 = ("_law_struck_right.<locals>.<lambda>" : Str)) (hmT2 : (PT2, ("_law_none_right.<locals>.<lambda>" : Str)) ∈ HasTabs.tt K) (hu2 : ∀ p ∈ HasTabs.tt K, p.1 = PT2 → p.2 = ("_law_none_right.<locals>.<lambda>" : Str))
    (D_is_sequence : Dfn K mg "is_sequence" "is_sequence" s_is_sequence ["value"])
    (D_is_number : Dfn K mg "is_number" "is_number" s_is_number ["value"])
    (D_is_below : Dfn K mg "is_below" "is_below" s_is_below ["value", "bound"])
    (D_is_marks_number : Dfn K mg "is_marks_number" "is_marks_number" s_is_marks_number ["value"])
    (D_wrong_marks : DfnT K mg "wrong_marks" "wrong_marks" s_wrong_marks ["value", "fewest", "most"] (.int 2) (.int 8))
    (D_Hands : Cfn K mg "Hands" "Hands.__init__" s_Hands___init__ ["self", "marks"] CH)
    (D_fits_bounds : Dfn K mg "fits_bounds" "fits_bounds" s_fits_bounds ["value", "bounds"])
    (D_is_log : Dfn K mg "is_log" "is_log" s_is_log ["value", "marks"])
    (D_as_tuples : Dfn K mg "as_tuples" "as_tuples" s_as_tuples ["rows"])
    (D_check_logs : Dfn K mg "check_logs" "check_logs" s_check_logs ["hands", "value"])
    (D_empty_logs : Dfn K mg "empty_logs" "empty_logs" s_empty_logs ["hands"])
    (D_last_marks : Dfn K mg "last_marks" "last_marks" s_last_marks ["hands", "logs"])
    (D__law_box : Dfn K mg "_law_box" "_law_box" s__law_box ["script", "k"])
    (D__law_take : Dfn K mg "_law_take" "_law_take" s__law_take ["box", "many"])
    (D__law_pick : Dfn K mg "_law_pick" "_law_pick" s__law_pick ["box", "some"])
    (D_Refused : DfnE K mg "Refused" "Refused.__init__" s_Refused___init__ CR ["at"])
    (D_BadStory : DfnE K mg "BadStory" "BadStory.__init__" s_BadStory___init__ CS ["at"])
    (D_BadLogs : DfnE K mg "BadLogs" "BadLogs.__init__" s_BadLogs___init__ CL ["at"])
    (D_NoHand : DfnN K mg "NoHand" "NoHand.__init__" s_NoHand___init__ CN "hand")
    (D_check_items : Dfn K mg "check_items" "check_items" s_check_items ["value", "bound"])
    (D_check_story : Dfn K mg "check_story" "check_story" s_check_story ["hands", "value"])
    (D_laid_logs : DfnK K mg "laid_logs" "laid_logs" s_laid_logs ["hands", "story", "marks"])
    (D_story_counts : Dfn K mg "story_counts" "story_counts" s_story_counts ["hands", "story"])
    (D_marks_along : DfnK K mg "marks_along" "marks_along" s_marks_along ["hands", "story", "logs"])
    (D_need_hand : Dfn K mg "need_hand" "need_hand" s_need_hand ["hands", "hand"])
    (D_with_item : Dfn K mg "with_item" "with_item" s_with_item ["row", "at", "item"])
    (D_struck_logs : DfnK K mg "struck_logs" "struck_logs" s_struck_logs ["hands", "logs", "hand"])
    (D__law_logs : Dfn K mg "_law_logs" "_law_logs" s__law_logs ["many", "story", "marks"])
    (D__law_heard : Dfn K mg "_law_heard" "_law_heard" s__law_heard ["ask"])
    (D__law_none_right : DfnC K mg "_law_none_right" "_law_none_right" s__law_none_right ["box", "hands", "story", "marks"] c2)
    (D__law_moment_right : Dfn K mg "_law_moment_right" "_law_moment_right" s__law_moment_right ["box", "hands", "story", "marks"])
    (D__law_struck_right : DfnC K mg "_law_struck_right" "_law_struck_right" s__law_struck_right ["box", "hands", "logs"] c1) :
    ∃ fd : FuncData, (∀ (s : Shared) (u : Value), BindsTo s fd ⟨[u], []⟩ [("script", u)]) ∧ ∀ base : Heap, K.In base → base.Ns mainGlobals mg → (∀ p ∈ [(c1, PT1), (c2, PT2)], LamX.TabB base mg p.1 p.2) → FnG P w K mg base 10 fa fd ["script"] (spOf K R_lawS) := by
  have e := hfa.symm.trans (PySem.W.mg_of X G al)
  cases e
  have F := fun_mk (st := s_law) ll cl kl
  exact ⟨_, fun s u => .of_eq rfl, fun base _ _ tb => all_top T LH Hd (tb (c1, PT1) List.mem_cons_self) hmT1 hu1 (tb (c2, PT2) (List.mem_cons_of_mem _ List.mem_cons_self)) hmT2 hu2 D_is_sequence D_is_number D_is_below D_is_marks_number D_wrong_marks D_Hands D_fits_bounds D_is_log D_as_tuples D_check_logs D_empty_logs D_last_marks D__law_box D__law_take D__law_pick D_Refused D_BadStory D_BadLogs D_NoHand D_check_items D_check_story D_laid_logs D_story_counts D_marks_along D_need_hand D_with_item D_struck_logs D__law_logs D__law_heard D__law_none_right D__law_moment_right D__law_struck_right F⟩

end
end K02

instance inst_K02 (K : PySem.W.Frag) : DL.HasTabs K := ⟨[(313, ("_law_struck_right.<locals>.<lambda>" : PySem.Str)), (318, ("_law_none_right.<locals>.<lambda>" : PySem.Str))]⟩
open PySem PySem.W PyProof.Rows in
set_option maxRecDepth 100000 in
set_option maxHeartbeats 0 in
theorem PySem.Challenge.cw_logsapart_k02_whole_what_a_story_lays_do_holds : PySem.Challenge.rw_logsapart_k02_whole_what_a_story_lays_do.Holds := by
  w_on; o_law; k_head; (case hw => w_witness2)
  k_fill
  refine DL.walkT (l := PySem.Challenge.rw_logsapart_k02_whole_what_a_story_lays_do) (k := 10) (x := "script") (cs := [(315, 313), (320, 318)]) (fun p q hq => by rcases List.mem_cons.mp hq with h | h <;> first | (rw [h]; exact List.mem_cons_self) | (rw [List.mem_singleton.mp h]; exact List.mem_cons_of_mem _ List.mem_cons_self)) rfl rfl ⟨rfl, by decide, by decide⟩ (fun w h Y => PySem.W.km_in_of Y) ?tbs ?F
  case tbs =>
    intro w h Y KX
    have hT1 := PySem.W.km_tabs_of Y 313 (by simp)
    have hT2 := PySem.W.km_tabs_of Y 318 (by simp)
    refine ⟨fun p hp => ?_, fun p hp => ?_, fun p hp => ?_⟩
    all_goals (simp only [List.mem_cons, List.not_mem_nil, or_false] at hp)
    · rcases hp with rfl | rfl <;> first | exact hT1 | exact hT2
    · rcases hp with rfl | rfl <;> kernel_rfl
    · rcases hp with rfl | rfl <;> exact PySem.W.codeHd_of_K KX (by kernel_rfl)
  case F =>
    intro w mg fa h KX G hmg
    refine' K02.all_end (c1 := 315) (PT1 := 313) (c2 := 320) (PT2 := 318) KX G hmg ?aCH ?al ?ll ?cl ?kl ?T ?LH ?Hd ?hmT1 ?hu1 ?hmT2 ?hu2 ?D_is_sequence ?D_is_number ?D_is_below ?D_is_marks_number ?D_wrong_marks ?D_Hands ?D_fits_bounds ?D_is_log ?D_as_tuples ?D_check_logs ?D_empty_logs ?D_last_marks ?D__law_box ?D__law_take ?D__law_pick ?D_Refused ?D_BadStory ?D_BadLogs ?D_NoHand ?D_check_items ?D_check_story ?D_laid_logs ?D_story_counts ?D_marks_along ?D_need_hand ?D_with_item ?D_struck_logs ?D__law_logs ?D__law_heard ?D__law_none_right ?D__law_moment_right ?D__law_struck_right
    (case aCH => k_is); (case al => k_is); (case ll => k_is); (case cl => k_is); (case kl => k_is)
    (case T => refine' {b_isinstance := ?b_isinstance, b_int := ?b_int, b_bool := ?b_bool, b_list := ?b_list, b_tuple := ?b_tuple, b_len := ?b_len, b_all := ?b_all, b_sum := ?b_sum, b_abs := ?b_abs, b_zip := ?b_zip, b_enumerate := ?b_enumerate, b_range := ?b_range, b_repr := ?b_repr, c_FEWEST_HANDS := ?c_FEWEST_HANDS, c_MOST_HANDS := ?c_MOST_HANDS, c_MOST_MARKS := ?c_MOST_MARKS, c_LONGEST := ?c_LONGEST}; (case b_isinstance => exact PySem.W.mg_none_of KX G (by k_is)); (case b_int => exact PySem.W.mg_none_of KX G (by k_is)); (case b_bool => exact PySem.W.mg_none_of KX G (by k_is)); (case b_list => exact PySem.W.mg_none_of KX G (by k_is)); (case b_tuple => exact PySem.W.mg_none_of KX G (by k_is)); (case b_len => exact PySem.W.mg_none_of KX G (by k_is)); (case b_all => exact PySem.W.mg_none_of KX G (by k_is)); (case b_sum => exact PySem.W.mg_none_of KX G (by k_is)); (case b_abs => exact PySem.W.mg_none_of KX G (by k_is)); (case b_zip => exact PySem.W.mg_none_of KX G (by k_is)); (case b_enumerate => exact PySem.W.mg_none_of KX G (by k_is)); (case b_range => exact PySem.W.mg_none_of KX G (by k_is)); (case b_repr => exact PySem.W.mg_none_of KX G (by k_is)); (case c_FEWEST_HANDS => refine' DL.const_mk KX G ?z ?e; (case z => k_is); (case e => exact ⟨_, rfl⟩)); (case c_MOST_HANDS => refine' DL.const_mk KX G ?z ?e; (case z => k_is); (case e => exact ⟨_, rfl⟩)); (case c_MOST_MARKS => refine' DL.const_mk KX G ?z ?e; (case z => k_is); (case e => exact ⟨_, rfl⟩)); (case c_LONGEST => refine' DL.const_mk KX G ?z ?e; (case z => k_is); (case e => exact ⟨_, rfl⟩)))
    (case LH => refine' ⟨⟨?pg, ?hd, ?po, ?sa⟩, ?x1, ?x2⟩; (case pg => k_is); (case hd => k_is); (case po => k_is); (case sa => k_is); (case x1 => refine' DL.no_attr ?nq; (case nq => k_is)); (case x2 => refine' DL.no_attr ?nq; (case nq => k_is)))
    (case Hd => refine' {mS := ?mS, mL := ?mL, mR := ?mR, mN := ?mN, mE := ?mE, xS := ?xS, xL := ?xL, xR := ?xR, xN := ?xN, nS := ?nS, nL := ?nL, nR := ?nR, nN := ?nN, ed := ⟨?e1, ?e2, ?e3, ?e4, ?e5, ?e6, ?e7, ?e8⟩, eE := ?eE, ap := ?ap, ne := ?ne}; (case mS => refine' PySem.W.mg_of KX G ?z; (case z => k_is)); (case mL => refine' PySem.W.mg_of KX G ?z; (case z => k_is)); (case mR => refine' PySem.W.mg_of KX G ?z; (case z => k_is)); (case mN => refine' PySem.W.mg_of KX G ?z; (case z => k_is)); (case mE => refine' PySem.W.mg_of KX G ?z; (case z => k_is)); (case xS => exact L2.xfB_ok (by kernel_rfl)); (case xL => exact L2.xfB_ok (by kernel_rfl)); (case xR => exact L2.xfB_ok (by kernel_rfl)); (case xN => exact L2.xfB_ok (by kernel_rfl)); (case nS => k_is); (case nL => k_is); (case nR => k_is); (case nN => k_is); (case e1 => kernel_rfl); (case e2 => k_is); (case e3 => k_is); (case e4 => k_is); (case e5 => k_is); (case e6 => k_is); (case e7 => k_is); (case e8 => k_is); (case eE => kernel_rfl); (case ap => intro c hc c' hc'; simp only [K02.cls4, List.mem_cons, List.not_mem_nil, or_false] at hc hc'; rcases hc with rfl | rfl | rfl | rfl <;> rcases hc' with rfl | rfl | rfl | rfl <;> kernel_rfl); (case ne => decide))
    (case hmT1 => exact List.mem_cons_self); (case hu1 => intro p hp h; (first | rfl | (rcases List.mem_cons.mp hp with e | hp; (first | (subst e; exact absurd h (by decide)) | (subst e; rfl)); (rw [List.mem_singleton.mp hp] at h; first | exact absurd h (by decide) | (rw [List.mem_singleton.mp hp])))))
    (case hmT2 => exact (List.mem_cons_of_mem _ List.mem_cons_self)); (case hu2 => intro p hp h; (first | rfl | (rcases List.mem_cons.mp hp with e | hp; (first | (subst e; exact absurd h (by decide)) | (subst e; rfl)); (rw [List.mem_singleton.mp hp] at h; first | exact absurd h (by decide) | (rw [List.mem_singleton.mp hp])))))
    (case D_is_sequence => refine' DL.dfn_mk KX G ?a ?l ?c ?k (fun _ _ _ _ _ _ us hl => match us, hl with | [_], _ => rfl); (case a => k_is); (case l => k_is); (case c => k_is); (case k => k_is))
    (case D_is_number => refine' DL.dfn_mk KX G ?a ?l ?c ?k (fun _ _ _ _ _ _ us hl => match us, hl with | [_], _ => rfl); (case a => k_is); (case l => k_is); (case c => k_is); (case k => k_is))
    (case D_is_below => refine' DL.dfn_mk KX G ?a ?l ?c ?k (fun _ _ _ _ _ _ us hl => match us, hl with | [_, _], _ => rfl); (case a => k_is); (case l => k_is); (case c => k_is); (case k => k_is))
    (case D_is_marks_number => refine' DL.dfn_mk KX G ?a ?l ?c ?k (fun _ _ _ _ _ _ us hl => match us, hl with | [_], _ => rfl); (case a => k_is); (case l => k_is); (case c => k_is); (case k => k_is))
    (case D_wrong_marks => refine' DL.dfnT_mk KX G ?a ?l ?lt ?r1 ?r2 ?c ?k (by decide) (fun _ _ _ _ _ _ _ us its l1 l2 => match us, its, l1, l2 with | [_, _, _], [_, _], _, _ => ⟨_, rfl, rfl⟩) (fun _ _ _ _ _ _ _ us its l1 l2 => match us, its, l1, l2 with | [_], [_, _], _, _ => ⟨_, rfl, rfl⟩); (case a => k_is); (case l => k_is); (case lt => k_is); (case r1 => first | exact rfl | exact ⟨_, rfl⟩); (case r2 => first | exact rfl | exact ⟨_, rfl⟩); (case c => k_is); (case k => k_is))
    (case D_Hands => refine' DL.cfn_mk KX G ?a ⟨?m1, ?m2, ?m3, ?m4⟩ ?l ?c ?k (fun _ _ _ _ _ _ us hl => match us, hl with | [_, _], _ => rfl); (case a => k_is); (case m2 => k_is); (case m1 => k_is); (case m3 => k_is); (case m4 => k_is); (case l => k_is); (case c => k_is); (case k => k_is))
    (case D_fits_bounds => refine' DL.dfn_mk KX G ?a ?l ?c ?k (fun _ _ _ _ _ _ us hl => match us, hl with | [_, _], _ => rfl); (case a => k_is); (case l => k_is); (case c => k_is); (case k => k_is))
    (case D_is_log => refine' DL.dfn_mk KX G ?a ?l ?c ?k (fun _ _ _ _ _ _ us hl => match us, hl with | [_, _], _ => rfl); (case a => k_is); (case l => k_is); (case c => k_is); (case k => k_is))
    (case D_as_tuples => refine' DL.dfn_mk KX G ?a ?l ?c ?k (fun _ _ _ _ _ _ us hl => match us, hl with | [_], _ => rfl); (case a => k_is); (case l => k_is); (case c => k_is); (case k => k_is))
    (case D_check_logs => refine' DL.dfn_mk KX G ?a ?l ?c ?k (fun _ _ _ _ _ _ us hl => match us, hl with | [_, _], _ => rfl); (case a => k_is); (case l => k_is); (case c => k_is); (case k => k_is))
    (case D_empty_logs => refine' DL.dfn_mk KX G ?a ?l ?c ?k (fun _ _ _ _ _ _ us hl => match us, hl with | [_], _ => rfl); (case a => k_is); (case l => k_is); (case c => k_is); (case k => k_is))
    (case D_last_marks => refine' DL.dfn_mk KX G ?a ?l ?c ?k (fun _ _ _ _ _ _ us hl => match us, hl with | [_, _], _ => rfl); (case a => k_is); (case l => k_is); (case c => k_is); (case k => k_is))
    (case D__law_box => refine' DL.dfn_mk KX G ?a ?l ?c ?k (fun _ _ _ _ _ _ us hl => match us, hl with | [_, _], _ => rfl); (case a => k_is); (case l => k_is); (case c => k_is); (case k => k_is))
    (case D__law_take => refine' DL.dfn_mk KX G ?a ?l ?c ?k (fun _ _ _ _ _ _ us hl => match us, hl with | [_, _], _ => rfl); (case a => k_is); (case l => k_is); (case c => k_is); (case k => k_is))
    (case D__law_pick => refine' DL.dfn_mk KX G ?a ?l ?c ?k (fun _ _ _ _ _ _ us hl => match us, hl with | [_, _], _ => rfl); (case a => k_is); (case l => k_is); (case c => k_is); (case k => k_is))
    (case D_Refused => refine' DL.dfnE_mk KX G ?a ?e1 ?e2 ?e3 ?e4 ?e5 ?e6 (List.forall_mem_cons.mpr ⟨?n1, fun _ h => nomatch h⟩) ?fi ?ti ?l ?c ?k (fun _ _ _ _ _ _ us hl => match us, hl with | [_, _], _ => rfl); (case a => k_is); (case e1 => k_is); (case e2 => exact rfl); (case e3 => k_is); (case e4 => k_is); (case e5 => k_is); (case e6 => k_is); (case n1 => k_is); (case fi => k_is); (case ti => k_is); (case l => k_is); (case c => k_is); (case k => k_is))
    (case D_BadStory => refine' DL.dfnE_mk KX G ?a ?e1 ?e2 ?e3 ?e4 ?e5 ?e6 (List.forall_mem_cons.mpr ⟨?n1, fun _ h => nomatch h⟩) ?fi ?ti ?l ?c ?k (fun _ _ _ _ _ _ us hl => match us, hl with | [_, _], _ => rfl); (case a => k_is); (case e1 => k_is); (case e2 => exact rfl); (case e3 => k_is); (case e4 => k_is); (case e5 => k_is); (case e6 => k_is); (case n1 => k_is); (case fi => k_is); (case ti => k_is); (case l => k_is); (case c => k_is); (case k => k_is))
    (case D_BadLogs => refine' DL.dfnE_mk KX G ?a ?e1 ?e2 ?e3 ?e4 ?e5 ?e6 (List.forall_mem_cons.mpr ⟨?n1, fun _ h => nomatch h⟩) ?fi ?ti ?l ?c ?k (fun _ _ _ _ _ _ us hl => match us, hl with | [_, _], _ => rfl); (case a => k_is); (case e1 => k_is); (case e2 => exact rfl); (case e3 => k_is); (case e4 => k_is); (case e5 => k_is); (case e6 => k_is); (case n1 => k_is); (case fi => k_is); (case ti => k_is); (case l => k_is); (case c => k_is); (case k => k_is))
    (case D_NoHand => refine' DL.dfnN_mk KX G ?a ?e1 ?e3 ?e4 ?e5 ?e6 ?n1 ?fi ?ti ?l ?c ?k (fun _ _ _ _ _ _ us hl => match us, hl with | [_, _], _ => rfl); (case a => k_is); (case e1 => k_is); (case e3 => k_is); (case e4 => k_is); (case e5 => k_is); (case e6 => k_is); (case n1 => k_is); (case fi => k_is); (case ti => k_is); (case l => k_is); (case c => k_is); (case k => k_is))
    (case D_check_items => refine' DL.dfn_mk KX G ?a ?l ?c ?k (fun _ _ _ _ _ _ us hl => match us, hl with | [_, _], _ => rfl); (case a => k_is); (case l => k_is); (case c => k_is); (case k => k_is))
    (case D_check_story => refine' DL.dfn_mk KX G ?a ?l ?c ?k (fun _ _ _ _ _ _ us hl => match us, hl with | [_, _], _ => rfl); (case a => k_is); (case l => k_is); (case c => k_is); (case k => k_is))
    (case D_laid_logs => refine' DL.dfnK_mk KX G ?a ?l ?c ?k (fun _ _ _ _ _ _ us hl => match us, hl with | [_, _, _], _ => rfl) (fun _ _ _ _ _ _ ws hl => match ws, hl with | [_, _, _], _ => rfl); (case a => k_is); (case l => k_is); (case c => k_is); (case k => k_is))
    (case D_story_counts => refine' DL.dfn_mk KX G ?a ?l ?c ?k (fun _ _ _ _ _ _ us hl => match us, hl with | [_, _], _ => rfl); (case a => k_is); (case l => k_is); (case c => k_is); (case k => k_is))
    (case D_marks_along => refine' DL.dfnK_mk KX G ?a ?l ?c ?k (fun _ _ _ _ _ _ us hl => match us, hl with | [_, _, _], _ => rfl) (fun _ _ _ _ _ _ ws hl => match ws, hl with | [_, _, _], _ => rfl); (case a => k_is); (case l => k_is); (case c => k_is); (case k => k_is))
    (case D_need_hand => refine' DL.dfn_mk KX G ?a ?l ?c ?k (fun _ _ _ _ _ _ us hl => match us, hl with | [_, _], _ => rfl); (case a => k_is); (case l => k_is); (case c => k_is); (case k => k_is))
    (case D_with_item => refine' DL.dfn_mk KX G ?a ?l ?c ?k (fun _ _ _ _ _ _ us hl => match us, hl with | [_, _, _], _ => rfl); (case a => k_is); (case l => k_is); (case c => k_is); (case k => k_is))
    (case D_struck_logs => refine' DL.dfnK_mk KX G ?a ?l ?c ?k (fun _ _ _ _ _ _ us hl => match us, hl with | [_, _, _], _ => rfl) (fun _ _ _ _ _ _ ws hl => match ws, hl with | [_, _, _], _ => rfl); (case a => k_is); (case l => k_is); (case c => k_is); (case k => k_is))
    (case D__law_logs => refine' DL.dfn_mk KX G ?a ?l ?c ?k (fun _ _ _ _ _ _ us hl => match us, hl with | [_, _, _], _ => rfl); (case a => k_is); (case l => k_is); (case c => k_is); (case k => k_is))
    (case D__law_heard => refine' DL.dfn_mk KX G ?a ?l ?c ?k (fun _ _ _ _ _ _ us hl => match us, hl with | [_], _ => rfl); (case a => k_is); (case l => k_is); (case c => k_is); (case k => k_is))
    (case D__law_none_right => refine' DL.dfnC_mk (cc := 320) KX G ?a ?l ?c ?k (fun _ _ _ _ _ _ us hl => match us, hl with | [_, _, _, _], _ => rfl); (case a => k_is); (case l => k_is); (case c => k_is); (case k => k_is))
    (case D__law_moment_right => refine' DL.dfn_mk KX G ?a ?l ?c ?k (fun _ _ _ _ _ _ us hl => match us, hl with | [_, _, _, _], _ => rfl); (case a => k_is); (case l => k_is); (case c => k_is); (case k => k_is))
    (case D__law_struck_right => refine' DL.dfnC_mk (cc := 315) KX G ?a ?l ?c ?k (fun _ _ _ _ _ _ us hl => match us, hl with | [_, _, _], _ => rfl); (case a => k_is); (case l => k_is); (case c => k_is); (case k => k_is))
